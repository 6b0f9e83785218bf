/- The document's functions of chapter 17: Weight, Check, Great, Same. The document's Columns of chapter 17. The document's Find of chapter 10. The document's May and Play of chapter 10. The document's Split and Join of chapter 11. The documen -/
import Derived.Test.YtpmedpdjglcdpaaGreatDoorB02
import Derived.Test.YtpmedpdjglcdpaaGreatDoorB06
import Derived.Test.YtpmedpdjglcdpaaGreatDoorB08
import Derived.BigQuiet
import Derived.OwnWalk
import Derived.Laws.StructEq
namespace Go.Proofs.YtpmedpdjglcdpaaGreatDoor
section
open Go.RowKit Rcs
attribute [local go_sem ↓] yn z7 z8
set_option maxHeartbeats 2000000 in
set_option maxRecDepth 10000 in
theorem Yf (A:Option Addr)(n c:Nat)(l:List Rc)(w:World)(h:RcsAt w w.heap.size A n l)(hn:n≤maxLen):Calls Tryz.prog 12 #[.slice A n c] w fun e w'=>e=.returned (.int .i64 (uH 0 l:Int))∧Qt w w':=by
 have hl:=h.1
 have H0:=hide (show uH 0 l=uH 0 (l.drop 0) from rfl)
 have HSt:=hide (fun (i sum:Nat) (hi:i<n)=>acd (l:=l) (i:=i) (sum:=sum) (by omega))
 have HEnd:=hide (show ∀ sum,uH sum (l.drop n)=sum from fun sum=>by rw[List.drop_eq_nil_of_le (by omega)];rfl)
 have HOk:=hide (fun (i:Nat) (hi:i<n)=>h.okAt hi)
 have HA:=hide h
 unfold maxLen at hn
 generalize uH 0 l=res at *
 clear h hl
 go_enter Tryz.func12,Tryz.ntmps12
 go_wp2
 go_loopw [4,3] (fun x y wr=>∃ i sum:Nat,i≤n∧x=.int .i64 (i:Int)∧y=.int .i64 (sum:Int)∧sum≤3298534883344∧res=uH sum (l.drop i)∧Qt w wr) (fun x _ _=>n-(intOf x).toNat)
 case atStart=>exact⟨0,0,by omega,rfl,rfl,by omega,H0.out,Qt.refl _⟩
 case round =>
  clear H0
  obtain⟨i,sum,hi,rfl,rfl,hs,hres,hQ⟩:=hrel
  by_cases hlt:i<n
  ·have hiI:(i:Int)<(n:Int):=by omega
   rcases (HA.out.later hQ.ext).2.1 with hn0 | ⟨b1,o1,rfl,_,hc1⟩
   ·omega
   obtain⟨-,-,e2,e3⟩:=hc1 i hlt
   rw[HSt.out i sum hlt]at hres
   obtain⟨-,k1,k2⟩:=HOk.out i hlt
   unfold maxLen at k1 k2
   obtain⟨s,hs0⟩:∃ s,s=(l.getD i default).src:=⟨_,rfl⟩
   obtain⟨t,ht0⟩:∃ t,t=(l.getD i default).text:=⟨_,rfl⟩
   rw[← hs0]at e2 hres k1
   rw[← ht0]at e3 hres k2
   have HRes:=hide hres
   clear hc1 hs0 ht0 hres
   have HQ:=hide hQ
   clear hQ
   by_cases b1':1099511627776<sum
   ·have bI:(1099511627776:Int)<(sum:Int):=by omega
    have HR:=hide (show res=2199023255552 by rw[HRes.out,if_pos (.inl b1')])
    clear b1' HRes
    go_wp2
    go_ret
    rw[HR.out]
    exact⟨rfl,HQ.out⟩
   have bI:¬ (1099511627776:Int)<(sum:Int):=by omega
   by_cases b2':1099511627776<s.length
   ·have cI:(1099511627776:Int)<(s.length:Int):=by omega
    have HR:=hide (show res=2199023255552 by rw[HRes.out,if_pos (.inr (.inl b2'))])
    clear b1' b2' HRes
    go_wp2
    go_ret
    rw[HR.out]
    exact⟨rfl,HQ.out⟩
   have cI:¬ (1099511627776:Int)<(s.length:Int):=by omega
   by_cases b3':1099511627776<t.length
   ·have dI:(1099511627776:Int)<(t.length:Int):=by omega
    have HR:=hide (show res=2199023255552 by rw[HRes.out,if_pos (.inr (.inr b3'))])
    clear b1' b2' b3' HRes
    go_wp2
    go_ret
    rw[HR.out]
    exact⟨rfl,HQ.out⟩
   have dI:¬ (1099511627776:Int)<(t.length:Int):=by omega
   have HR:=hide (show res=uH (sum+16+s.length+t.length) (l.drop (i+1)) by rw[HRes.out,if_neg (by omega)])
   have w1:IntKind.i64.wrap ((sum:Int)+16)=(sum:Int)+16:=by rw[IntKind.wrap_i64];omega
   have w2:IntKind.i64.wrap ((sum:Int)+16+(s.length:Int))=(sum:Int)+16+(s.length:Int):=by rw[IntKind.wrap_i64];omega
   have w3:IntKind.i64.wrap ((sum:Int)+16+(s.length:Int)+(t.length:Int))=((sum+16+s.length+t.length:Nat):Int):=by rw[IntKind.wrap_i64];omega
   have hs':sum+16+s.length+t.length≤3298534883344:=by omega
   clear b1' b2' b3' HRes k1 k2
   generalize hz:sum+16+s.length+t.length=z at *
   go_wp2_with fail
   go_quiet (fail)
   clear w1 w2 w3
   go_wp2
   go_roundw
   case rel=>exact⟨i+1,z,by omega,by go_num,by first | rfl | (rw[← hz];rfl) | (rw[← hz];congr 1;omega),hs',by rw[← hz]at *;exact HR.out,HQ.out.drewN _⟩
   case measure=>simp[intOf];omega
  ·have hiI:¬ (i:Int)<(n:Int):=by omega
   obtain rfl:i=n:=by omega
   rw[HEnd.out]at hres
   subst hres
   clear hlt
   go_wp2
   go_ret
   exact⟨rfl,hQ⟩
set_option maxHeartbeats 2000000 in
set_option maxRecDepth 10000 in
theorem uZ (A:Option Addr)(n c:Nat)(l:List Rc)(w:World)(h:RcsAt w w.heap.size A n l):Calls Tryz.prog 5 #[.slice A n c] w fun e w'=>e=.returned (.int .i64 (checkE l))∧Qt w w':=by
 have hl:=h.1
 by_cases hbig:20000<n
 ·have hbI:(20000:Int)<(n:Int):=by omega
  have hc:checkE l=6:=by unfold checkE;rw[if_neg (by omega)]
  rw[hc]
  clear hc hl hbig h
  go_enter Tryz.func5,Tryz.ntmps5
  go_wp2
  go_ret
  exact⟨rfl,Qt.refl _⟩
 have hbI:¬ (20000:Int)<(n:Int):=by omega
 have HNo:=hide (show ∀ i,i<n→4000<(l.getD i default).src.length∨4000<(l.getD i default).text.length→checkE l=6 from fun i hi hx=>by
  unfold checkE
  rw[if_neg]
  rintro⟨_,h2,_⟩
  have:=h2 (l.getD i default) (by rw[List.getD_eq_getElem?_getD,List.getElem?_eq_getElem (by omega)];exact List.getElem_mem _)
  omega)
 have HEnd:=hide (show (∀ i,i<n→(l.getD i default).src.length≤4000∧(l.getD i default).text.length≤4000)→checkE l=if 1048576<weightE l then 6 else 0 from fun hx=>by
  have h2:∀ r∈l,r.src.length≤4000∧r.text.length≤4000:=fun r hr=>by
   obtain⟨i,hi,rfl⟩:=List.getElem_of_mem hr
   have:=hx i (by omega)
   rw[List.getD_eq_getElem?_getD,List.getElem?_eq_getElem hi]at this
   exact this
  unfold checkE
  by_cases hw:1048576<weightE l
  ·rw[if_neg (by omega),if_pos hw]
  ·rw[if_pos ⟨by omega,h2,by omega⟩,if_neg hw])
 have HW:=hide (fun (i:Nat) (hi:i<n)=>vA (l:=l) (i:=i) (by omega))
 have HW0:=hide (show weightE (l.take 0)=0 by simp[weightE])
 have HWn:=hide (show weightE (l.take n)=weightE l by rw[List.take_of_length_le (by omega)])
 have HA:=hide h
 generalize checkE l=res at *
 clear h hl hbig
 go_enter Tryz.func5,Tryz.ntmps5
 go_wp2
 go_loopw [4,3] (fun x y wr=>∃ i sum:Nat,i≤n∧x=.int .i64 (i:Int)∧y=.int .i64 (sum:Int)∧sum=weightE (l.take i)∧sum≤8016*i∧(∀ j,j<i→(l.getD j default).src.length≤4000∧(l.getD j default).text.length≤4000)∧Qt w wr) (fun x _ _=>n-(intOf x).toNat)
 case atStart=>exact⟨0,0,by omega,rfl,rfl,HW0.out.symm,by omega,fun j hj=>absurd hj (by omega),Qt.refl _⟩
 case round =>
  obtain⟨i,sum,hi,rfl,rfl,hs,hs2,hall,hQ⟩:=hrel
  have HS:=hide hs
  have HAll:=hide hall
  clear hs hall
  by_cases hlt:i<n
  ·have hiI:(i:Int)<(n:Int):=by omega
   rcases (HA.out.later hQ.ext).2.1 with hn0 | ⟨b1,o1,rfl,_,hc1⟩
   ·omega
   obtain⟨-,-,e2,e3⟩:=hc1 i hlt
   have HWi:=hide (HW.out i hlt)
   have HNi:=hide (HNo.out i hlt)
   have HNx:=hide (show (l.getD i default).src.length≤4000→(l.getD i default).text.length≤4000→∀ j,j<i+1→(l.getD j default).src.length≤4000∧(l.getD j default).text.length≤4000 from fun h1 h2 j hj=>by
    by_cases e:j=i
    ·rw[e];exact⟨h1,h2⟩
    ·exact HAll.out j (by omega))
   obtain⟨s,hs0⟩:∃ s,s=(l.getD i default).src:=⟨_,rfl⟩
   obtain⟨t,ht0⟩:∃ t,t=(l.getD i default).text:=⟨_,rfl⟩
   rw[← hs0]at e2 HWi HNi HNx
   rw[← ht0]at e3 HWi HNi HNx
   have HQ:=hide hQ
   clear hc1 hs0 ht0 hQ
   by_cases b2':4000<s.length
   ·have cI:(4000:Int)<(s.length:Int):=by omega
    have HR:=hide (HNi.out (.inl b2'))
    clear b2' HNi HNx
    go_wp2
    go_ret
    rw[HR.out]
    exact⟨rfl,HQ.out⟩
   have cI:¬ (4000:Int)<(s.length:Int):=by omega
   by_cases b3':4000<t.length
   ·have dI:(4000:Int)<(t.length:Int):=by omega
    have HR:=hide (HNi.out (.inr b3'))
    clear b2' b3' HNi HNx
    go_wp2
    go_ret
    rw[HR.out]
    exact⟨rfl,HQ.out⟩
   have dI:¬ (4000:Int)<(t.length:Int):=by omega
   have HNx2:=hide (HNx.out (by omega) (by omega))
   have w1:IntKind.i64.wrap ((sum:Int)+16)=(sum:Int)+16:=by rw[IntKind.wrap_i64];omega
   have w2:IntKind.i64.wrap ((sum:Int)+16+(s.length:Int))=(sum:Int)+16+(s.length:Int):=by rw[IntKind.wrap_i64];omega
   have w3:IntKind.i64.wrap ((sum:Int)+16+(s.length:Int)+(t.length:Int))=((sum+16+s.length+t.length:Nat):Int):=by rw[IntKind.wrap_i64];omega
   have hs':sum+16+s.length+t.length≤8016*(i+1):=by omega
   have HSn:=hide (show sum+16+s.length+t.length=weightE (l.take (i+1)) by rw[HWi.out,← HS.out])
   clear b2' b3' HNi HNx
   generalize hz:sum+16+s.length+t.length=z at *
   go_wp2_with fail
   go_quiet (fail)
   clear w1 w2 w3
   go_wp2
   go_roundw
   case rel=>exact⟨i+1,z,by omega,by go_num,by first | rfl | (rw[← hz];rfl) | (rw[← hz];congr 1;omega),by first | exact HSn.out | (rw[← hz]at *;exact HSn.out),by first | exact hs' | omega,HNx2.out,HQ.out.drewN _⟩
   case measure=>simp[intOf];omega
  ·have hiI:¬ (i:Int)<(n:Int):=by omega
   obtain rfl:i=n:=by omega
   have hr:=HEnd.out (fun j hj=>HAll.out j hj)
   rw[← HWn.out,← HS.out]at hr
   have HR:=hide hr
   have HQ:=hide hQ
   clear hlt hr hQ
   by_cases hw:1048576<sum
   ·have wI:(1048576:Int)<(sum:Int):=by omega
    have HR2:=hide (show res=6 by rw[HR.out,if_pos hw])
    clear hw
    go_wp2
    go_ret
    rw[HR2.out]
    exact⟨rfl,HQ.out⟩
   ·have wI:¬ (1048576:Int)<(sum:Int):=by omega
    have HR2:=hide (show res=0 by rw[HR.out,if_neg hw])
    clear hw
    go_wp2
    go_ret
    rw[HR2.out]
    exact⟨rfl,HQ.out⟩
set_option maxHeartbeats 2000000 in
set_option maxRecDepth 10000 in
theorem Xn (A:Option Addr)(n c:Nat)(l:List Rc)(records bytes:Int)(w:World)(h:RcsAt w w.heap.size A n l)(hn:n≤maxLen):Calls Tryz.prog 6 #[.slice A n c,.int .i64 records,.int .i64 bytes] w fun e w'=>e=.returned (.bool (V8 l records bytes))∧Qt w w':=by
 have CW:=Yf A n c l w h hn
 have hl:=h.1
 unfold V8
 rw[hl]
 generalize uH 0 l=g at *
 clear h hl hn
 by_cases h1:records<(n:Int)
 ·rw[decide_eq_true (.inl h1)]
  clear CW
  go_enter Tryz.func6,Tryz.ntmps6
  go_wp2
  go_ret
  exact⟨rfl,Qt.refl _⟩
 ·by_cases h2:bytes<(g:Int)
  ·rw[decide_eq_true (.inr h2)]
   go_enter Tryz.func6,Tryz.ntmps6
   go_wp2_with fail
   refine CW.mono ?_
   rintro e w1 ⟨rfl,hQ1⟩
   go_wp2
   go_ret
   exact⟨rfl,hQ1⟩
  ·rw[decide_eq_false (by omega)]
   go_enter Tryz.func6,Tryz.ntmps6
   go_wp2_with fail
   refine CW.mono ?_
   rintro e w1 ⟨rfl,hQ1⟩
   go_wp2
   go_ret
   exact⟨zf (decide_eq_false (by omega)),hQ1⟩
end
section
open Go.RowKit Rcs Num
theorem Rcs.times_step {l:List Rc}{i was:Nat}(h:i<l.length):yf was (l.drop i)=enc (zig (uF (l.getD i default).time was))++yf (l.getD i default).time (l.drop (i+1)):=by rw[jh h,yf]
theorem Rcs.levels_step {l:List Rc}{i:Nat}{p:Option UInt8}(h:i<l.length):zu p (l.drop i)=(if p=some (l.getD i default).lv then [] else (l.getD i default).lv::enc (yt (l.getD i default).lv (l.drop (i+1))+1))++zu (some (l.getD i default).lv) (l.drop (i+1)):=by rw[jh h,zu]
theorem Rcs.run_step {l:List Rc}{i:Nat}{x:UInt8}(h:i<l.length):yt x (l.drop i)=if (l.getD i default).lv=x then yt x (l.drop (i+1))+1 else 0:=by rw[jh h,yt]
theorem Rcs.times_len:∀ (l:List Rc) (was:Nat),(yf was l).length≤10*l.length
 | [],_=>by simp[yf]
 | r::t,was=>by
  have h1:=times_len t r.time
  have h2:=enc_len (zig (uF r.time was))
  rw[yf,List.length_append,List.length_cons]
  omega
theorem Rcs.levels_len:∀ (l:List Rc) (p:Option UInt8),(zu p l).length≤11*l.length
 | [],_=>by simp[zu]
 | r::t,p=>by
  have h1:=levels_len t (some r.lv)
  have h2:=enc_len (yt r.lv t+1)
  rw[zu,List.length_append,List.length_cons]
  split
  ·simp;omega
  ·simp;omega
def Rcs.before (l:List Rc)(i:Nat):Option UInt8:=if i=0 then none else some (l.getD (i-1) default).lv
theorem Xo {a b:Nat}(_:a<2 ^ 64)(hb:b<2 ^ 64):IntKind.u64.wrap ((a:Int)-(b:Int))=(uF a b:Int):=by rw[IntKind.wrap_u64];unfold uF;omega
set_option maxHeartbeats 4000000 in
set_option maxRecDepth 10000 in
theorem Zz (A:Option Addr)(n c:Nat)(l:List Rc)(w:World)(h:RcsAt w w.heap.size A n l)(hn:n≤20000):Calls Tryz.prog 40 #[.slice A n c] w (zt w (columnsE l)):=by
 have hl:=h.1
 have HOk:=hide (fun (i:Nat) (hi:i<n)=>(h.okAt hi).1)
 have HTs:=hide (fun (i was:Nat) (hi:i<n)=>times_step (l:=l) (i:=i) (was:=was) (by omega))
 have HLs:=hide (fun (i:Nat) (p:Option UInt8) (hi:i<n)=>levels_step (l:=l) (i:=i) (p:=p) (by omega))
 have HRn:=hide (fun (i:Nat) (x:UInt8) (hi:i<n)=>run_step (l:=l) (i:=i) (x:=x) (by omega))
 have HRe:=hide (show ∀ (i:Nat) (x:UInt8),n≤i→yt x (l.drop i)=0 from fun i x hi=>by rw[List.drop_eq_nil_of_le (by omega)];rfl)
 have HTe:=hide (show ∀ was,yf was (l.drop n)=[] from fun was=>by rw[List.drop_eq_nil_of_le (by omega)];rfl)
 have HLe:=hide (show ∀ p,zu p (l.drop n)=[] from fun p=>by rw[List.drop_eq_nil_of_le (by omega)];rfl)
 have HT0:=hide (show yf 0 l=[]++yf 0 (l.drop 0) from rfl)
 have HL0:=hide (show zu none l=[]++zu (before l 0) (l.drop 0) from rfl)
 have HTl:=hide (show (yf 0 l).length≤200000 by have:=times_len l 0;omega)
 have HLl:=hide (show (zu none l).length≤220000 by have:=levels_len l none;omega)
 have HBe:=hide (show ∀ i,before l (i+1)=some (l.getD i default).lv from fun i=>by simp[before])
 have HB0:=hide (show before l 0=none from rfl)
 have HA:=hide h
 have HD:=hide (show columnsE l=yf 0 l++zu none l from rfl)
 unfold zt
 rw[HD.out]
 obtain⟨T,hT⟩:∃ T,T=yf 0 l:=⟨_,rfl⟩
 obtain⟨V,hV⟩:∃ V,V=zu none l:=⟨_,rfl⟩
 rw[← hT]at HT0 HTl ⊢
 rw[← hV]at HL0 HLl ⊢
 clear h hl hT hV HD
 go_enter Tryz.func40,Tryz.ntmps40
 go_wp2
 go_loopw [5,3,4] (fun x v y wr=>∃ (i was:Nat) (X:List UInt8),i≤n∧x=.int .i64 (i:Int)∧y=.int .u64 (was:Int)∧was<2 ^ 64∧OwnB wr w.heap.size v X∧T=X++yf was (l.drop i)∧Ext w wr) (fun x _ _ _=>n-(intOf x).toNat)
 case atStart=>exact⟨0,0,[],by omega,rfl,rfl,by decide,OwnB.nil _ _,HT0.out,Ext.refl _⟩
 case round =>
  clear HT0
  obtain⟨i,was,X,hi,rfl,rfl,hwas,hO,hT,hE⟩:=hrel
  have HO:=hide hO
  have HE:=hide hE
  by_cases hlt:i<n
  ·have hiI:(i:Int)<(n:Int):=by omega
   rcases (HA.out.later hE).2.1 with hn0 | ⟨b1,o1,rfl,_,hc1⟩
   ·omega
   have HCell:=hide (show ∀ W,Ext w W→RcAt W b1 (o1+i*4) (l.getD i default) from fun W hW=>by
    rcases (HA.out.later hW).2.1 with h0 | ⟨b2,o2,h2,_,hc2⟩
    ·omega
    ·simp only[Option.some.injEq,Addr.mk.injEq,and_true]at h2
     obtain⟨rfl,rfl⟩:=h2
     exact hc2 i hlt)
   obtain⟨e0,-,-,-⟩:=hc1 i hlt
   rw[HTs.out i was hlt]at hT
   have ht64:=HOk.out i hlt
   obtain⟨r,hr⟩:∃ r,r=l.getD i default:=⟨_,rfl⟩
   rw[← hr]at e0 hT ht64 HCell
   have HTi:=hide hT
   have hXl:X.length≤200000:=by have h1:=HTl.out;rw[hT,List.length_append]at h1;omega
   have hsw:=Xo ht64 hwas
   have hs64:=aca r.time was
   have CZ:=fun W=>QE (uF r.time was) W (by omega)
   have CN:=fun W=>zx (zig (uF r.time was)) W (ab7 hs64)
   obtain⟨d,hd⟩:∃ d,d=uF r.time was:=⟨_,rfl⟩
   rw[← hd]at hsw CZ CN HTi
   obtain⟨Z,hZ⟩:∃ Z,Z=enc (zig d):=⟨_,rfl⟩
   have hZl:Z.length≤10:=by rw[hZ];exact enc_len _
   rw[← hZ]at CN HTi
   generalize zig d=zz at *
   clear hc1 hr hT hd hZ hO hE hwas
   go_wp2_with fail
   refine (CZ _).mono ?_
   rintro e w' ⟨rfl,rfl⟩
   go_wp2_with fail
   refine (CN _).mono ?_
   rintro e w4 ⟨v4,rfl,hO4,hE4⟩
   obtain⟨A4,c4,hv4,-,-,q4⟩:=hO4.form
   obtain⟨m4,hm4⟩:∃ m,m=Z.length:=⟨_,rfl⟩
   rw[← hm4]at hv4 q4
   have HM4:=hide hm4
   have HQ4:=hide q4
   have HE4:=hide (HE.out.trans hE4)
   have HO4:=hide (HO.out.ext hE4)
   subst hv4
   clear hO4 q4 hm4 hE4 CZ CN e0 hs64 hsw
   go_wp2_with (at_builtin;refine ze rfl (.tmp 14) (.tmp 23) rfl rfl HO4.out rfl HQ4.out (by have:=HM4.out;omega) HE4.out.le ?_;intro v5 w5 hO5 hG5 _;have HO5:=hide hO5;have HE5:=hide (show Ext w w5 from Below.grown HE4.out hG5 HE4.out.le (fun k hk=>(HO4.out.lt k hk).1));obtain⟨f0,-,-,-⟩:=HCell.out w5 HE5.out;clear hO5 hG5)
   go_roundw
   case rel=>exact⟨i+1,r.time,X++Z,by omega,by go_num,rfl,ht64,HO5.out,by rw[HTi.out,List.append_assoc],HE5.out⟩
   case measure=>simp[intOf];omega
  ·have hiI:¬ (i:Int)<(n:Int):=by omega
   have hin:i=n:=by omega
   rw[hin,HTe.out,List.append_nil]at hT
   subst hT
   clear hlt hin hO hE
   obtain⟨w0,rfl⟩:∃ W,W=wr:=⟨_,rfl⟩
   go_wp2
   go_loopw [6,3] (fun x v wr=>∃ (i:Nat) (Y:List UInt8),i≤n∧x=.int .i64 (i:Int)∧OwnB wr w.heap.size v (T++Y)∧V=Y++zu (before l i) (l.drop i)∧Ext w wr) (fun x _ _=>n-(intOf x).toNat)
   case atStart=>exact⟨0,[],by omega,rfl,by rw[List.append_nil];exact HO.out,HL0.out,HE.out⟩
   case round =>
    clear HL0 HO HE
    obtain⟨i,Y,hi,rfl,hO,hV,hE⟩:=hrel
    have HO:=hide hO
    have HE:=hide hE
    by_cases hlt:i<n
    ·have hiI:(i:Int)<(n:Int):=by omega
     have hlt0:=hide hlt
     rcases (HA.out.later hE).2.1 with hn0 | ⟨b1,o1,rfl,_,hc1⟩
     ·omega
     have HCell:=hide (show ∀ W,Ext w W→∀ j,j<n→RcAt W b1 (o1+j*4) (l.getD j default) from fun W hW j hj=>by
      rcases (HA.out.later hW).2.1 with h0 | ⟨b2,o2,h2,_,hc2⟩
      ·omega
      ·simp only[Option.some.injEq,Addr.mk.injEq,and_true]at h2
       obtain⟨rfl,rfl⟩:=h2
       exact hc2 j hj)
     obtain⟨-,e1,-,-⟩:=hc1 i hlt
     rw[HLs.out i _ hlt]at hV
     obtain⟨x,hx⟩:∃ x,x=(l.getD i default).lv:=⟨_,rfl⟩
     rw[← hx]at e1 hV
     have HXe:=hide hx
     have HVq:=hide hV
     clear hV hO hE hlt hx
     rcases Nat.eq_zero_or_pos i with hi0|hi0
     ·have hd0:decide ((0:Int)<(i:Int))=false:=decide_eq_false (by omega)
      have hdn:decide (0<i)=false:=decide_eq_false (by omega)
      have HV:=hide (show V=Y++((x::enc (yt x (l.drop (i+1))+1))++zu (some x) (l.drop (i+1))) by rw[HVq.out,hi0,HB0.out,if_neg (by simp)])
      clear hc1 hi0
      obtain⟨wp,rfl⟩:∃ W,W=wr:=⟨_,rfl⟩
      go_wp2_with fail
      go_quiet (fail)
      clear hd0 hdn e1
      go_wp2
      go_loopw [7] (fun y wk=>∃ k:Nat,1≤k∧i+k≤n∧y=.int .i64 (k:Int)∧yt x (l.drop (i+1))+1=k+yt x (l.drop (i+k))∧Qt wp wk) (fun y _=>n-(intOf y).toNat)
      case atStart=>exact⟨1,by omega,by have:=hlt0.out;omega,rfl,by omega,⟨_,rfl⟩⟩
      case round =>
       obtain⟨k,hk1,hk2,rfl,hk3,hQ⟩:=hrel
       obtain⟨j,hj⟩:∃ j,j=i+k:=⟨_,rfl⟩
       have hjI:(i:Int)+(k:Int)=(j:Int):=by omega
       have w1:IntKind.i64.wrap ((i:Int)+(k:Int))=(j:Int):=by rw[IntKind.wrap_i64];omega
       obtain⟨-,f1,-,-⟩:=HCell.out wr (HE.out.trans hQ.ext) i hlt0.out
       rw[← HXe.out]at f1
       by_cases hk:j<n
       ·have hjd:decide ((j:Int)<(n:Int))=true:=decide_eq_true (by omega)
        have hjn:decide (j<n)=true:=decide_eq_true hk
        have hjL:(j:Int)<(n:Int):=by omega
        obtain⟨-,f2,-,-⟩:=HCell.out wr (HE.out.trans hQ.ext) j hk
        have hrs:=HRn.out j x hk
        obtain⟨z,hz0⟩:∃ z,z=(l.getD j default).lv:=⟨_,rfl⟩
        rw[← hz0]at f2 hrs
        by_cases hz:z=x
        ·have hzx:((z.toNat:Int)==(x.toNat:Int))=true:=by rw[hz];simp
         rw[if_pos hz]at hrs
         have HK:=hide (show yt x (l.drop (i+1))+1=(k+1)+yt x (l.drop (i+(k+1))) by rw[hk3,← hj,hrs,show i+(k+1)=j+1 by omega];omega)
         have HJ:=hide hj
         clear hz hz0 hrs hk3 hj
         go_wp2_with fail
         go_quiet (fail)
         clear w1 hjd hjn hzx f1 f2 hjI hjL
         go_wp2
         go_roundw
         case rel=>exact⟨k+1,by omega,by have:=HJ.out;omega,by go_num,HK.out,hQ.drewN _⟩
         case measure=>have:=HJ.out;simp[intOf];omega
        ·have hzx:((z.toNat:Int)==(x.toNat:Int))=false:=by rw[beq_eq_false_iff_ne];exact fun e=>hz (UInt8.toNat_inj.1 (by omega))
         rw[if_neg hz]at hrs
         have HRun0:=hide (show yt x (l.drop (i+k))=0 by rw[← hj];exact hrs)
         have HJ:=hide hj
         clear hz hz0 hrs hj
         go_wp2_with fail
         go_quiet (fail)
         clear w1 hjd hjn hzx f1 f2 hjI hjL
         have hR:yt x (l.drop (i+1))+1=k:=by rw[hk3,HRun0.out,Nat.add_zero]
         have HVi:=hide (show V=(Y++[x]++enc k)++zu (before l (i+1)) (l.drop (i+1)) by rw[HV.out,hR,HBe.out,← HXe.out];simp)
         have HEq:=hide (HE.out.trans (hQ.drewN nq).ext)
         have HOq:=hide (HO.out.ext (hQ.drewN nq).ext)
         have hkw:IntKind.u64.wrap (k:Int)=(k:Int):=by rw[IntKind.wrap_u64];omega
         obtain⟨-,g1,-,-⟩:=HCell.out _ HEq.out i hlt0.out
         rw[← HXe.out]at g1
         clear hR hk3 hQ
         generalize hwq:World.drewN wr nq=wq at *
         clear hwq
         have hYl:(T++Y).length≤500000:=by have h1:=HLl.out;have h2:=HTl.out;rw[HV.out,List.length_append]at h1;rw[List.length_append];omega
         have HYl:=hide hYl
         have CN:=fun W=>zx k W (by omega)
         clear hYl
         go_wp2_with (at_builtin;refine ze rfl (.tmp 75) (.tmp 81) rfl rfl (HOq.out.ext (zb wq _)) rfl (zr wq [x] #[.int .u8 (x.toNat:Int)] 5 (0,0) rfl 1 rfl) (by have:=HYl.out;omega) (HEq.out.trans (zb wq _)).le ?_;intro v3 w3 hO3 hG3 _;have HO3:=hide hO3;have HE3:=hide (show Ext w w3 from Below.grown (HEq.out.trans (zb wq _)) hG3 (HEq.out.trans (zb wq _)).le (fun k hk=>(HOq.out.lt k hk).1));clear hO3 hG3 g1)
         refine (CN w3).mono ?_
         rintro e w4 ⟨v4,rfl,hO4,hE4⟩
         obtain⟨A4,c4,hv4,-,-,q4⟩:=hO4.form
         obtain⟨m4,hm4⟩:∃ m,m=(enc k).length:=⟨_,rfl⟩
         have hm10:=enc_len k
         rw[← hm4]at hv4 q4 hm10
         have HQ4:=hide q4
         have HE4:=hide (HE3.out.trans hE4)
         have HO4:=hide (HO3.out.ext hE4)
         subst hv4
         clear hO4 q4 hm4 hE4 CN
         go_wp2_with (at_builtin;refine ze rfl (.tmp 83) (.tmp 86) rfl rfl HO4.out rfl HQ4.out (by have:=HYl.out;rw[List.length_append,List.length_singleton];omega) HE4.out.le ?_;intro v5 w5 hO5 hG5 _;have HO5:=hide hO5;have HE5:=hide (show Ext w w5 from Below.grown HE4.out hG5 HE4.out.le (fun k hk=>(HO4.out.lt k hk).1));clear hO5 hG5)
         go_roundw
         case rel=>exact⟨i+1,Y++[x]++enc k,by have:=hlt0.out;omega,by go_num,by rw[← List.append_assoc,← List.append_assoc];exact HO5.out,HVi.out,HE5.out⟩
         case measure=>have:=hlt0.out;simp[intOf];omega
       ·have hjd:decide ((j:Int)<(n:Int))=false:=decide_eq_false (by omega)
        have hjn:decide (j<n)=false:=decide_eq_false hk
        have HRun0:=hide (show yt x (l.drop (i+k))=0 from HRe.out (i+k) x (by omega))
        have HJ:=hide hj
        clear hj hk
        go_wp2_with fail
        go_quiet (fail)
        clear w1 hjd hjn f1 hjI
        have hR:yt x (l.drop (i+1))+1=k:=by rw[hk3,HRun0.out,Nat.add_zero]
        have HVi:=hide (show V=(Y++[x]++enc k)++zu (before l (i+1)) (l.drop (i+1)) by rw[HV.out,hR,HBe.out,← HXe.out];simp)
        have HEq:=hide (HE.out.trans (hQ.drewN nq).ext)
        have HOq:=hide (HO.out.ext (hQ.drewN nq).ext)
        have hkw:IntKind.u64.wrap (k:Int)=(k:Int):=by rw[IntKind.wrap_u64];omega
        obtain⟨-,g1,-,-⟩:=HCell.out _ HEq.out i hlt0.out
        rw[← HXe.out]at g1
        clear hR hk3 hQ
        generalize hwq:World.drewN wr nq=wq at *
        clear hwq
        have hYl:(T++Y).length≤500000:=by have h1:=HLl.out;have h2:=HTl.out;rw[HV.out,List.length_append]at h1;rw[List.length_append];omega
        have HYl:=hide hYl
        have CN:=fun W=>zx k W (by omega)
        clear hYl
        go_wp2_with (at_builtin;refine ze rfl (.tmp 75) (.tmp 81) rfl rfl (HOq.out.ext (zb wq _)) rfl (zr wq [x] #[.int .u8 (x.toNat:Int)] 5 (0,0) rfl 1 rfl) (by have:=HYl.out;omega) (HEq.out.trans (zb wq _)).le ?_;intro v3 w3 hO3 hG3 _;have HO3:=hide hO3;have HE3:=hide (show Ext w w3 from Below.grown (HEq.out.trans (zb wq _)) hG3 (HEq.out.trans (zb wq _)).le (fun k hk=>(HOq.out.lt k hk).1));clear hO3 hG3 g1)
        refine (CN w3).mono ?_
        rintro e w4 ⟨v4,rfl,hO4,hE4⟩
        obtain⟨A4,c4,hv4,-,-,q4⟩:=hO4.form
        obtain⟨m4,hm4⟩:∃ m,m=(enc k).length:=⟨_,rfl⟩
        have hm10:=enc_len k
        rw[← hm4]at hv4 q4 hm10
        have HQ4:=hide q4
        have HE4:=hide (HE3.out.trans hE4)
        have HO4:=hide (HO3.out.ext hE4)
        subst hv4
        clear hO4 q4 hm4 hE4 CN
        go_wp2_with (at_builtin;refine ze rfl (.tmp 83) (.tmp 86) rfl rfl HO4.out rfl HQ4.out (by have:=HYl.out;rw[List.length_append,List.length_singleton];omega) HE4.out.le ?_;intro v5 w5 hO5 hG5 _;have HO5:=hide hO5;have HE5:=hide (show Ext w w5 from Below.grown HE4.out hG5 HE4.out.le (fun k hk=>(HO4.out.lt k hk).1));clear hO5 hG5)
        go_roundw
        case rel=>exact⟨i+1,Y++[x]++enc k,by have:=hlt0.out;omega,by go_num,by rw[← List.append_assoc,← List.append_assoc];exact HO5.out,HVi.out,HE5.out⟩
        case measure=>have:=hlt0.out;simp[intOf];omega
     ·have hd0:decide ((0:Int)<(i:Int))=true:=decide_eq_true (by omega)
      have hdn:decide (0<i)=true:=decide_eq_true hi0
      have hi0I:(0:Int)<(i:Int):=by omega
      obtain⟨p,hp⟩:∃ p,p=i-1:=⟨_,rfl⟩
      have hpi:(i:Int)-1=(p:Int):=by omega
      have hpn:(p:Int)<(n:Int):=by omega
      have wp1:IntKind.i64.wrap ((i:Int)-1)=(p:Int):=by rw[IntKind.wrap_i64];omega
      obtain⟨-,e2,-,-⟩:=hc1 p (by omega)
      have hbf:before l i=some (l.getD p default).lv:=by unfold before;rw[if_neg (by omega),hp]
      obtain⟨y,hy⟩:∃ y,y=(l.getD p default).lv:=⟨_,rfl⟩
      rw[← hy]at e2 hbf
      by_cases hxy:x=y
      ·have hxe:((x.toNat:Int)==(y.toNat:Int))=true:=by rw[hxy];simp
       have HVi:=hide (show V=Y++zu (before l (i+1)) (l.drop (i+1)) by rw[HVq.out,hbf,if_pos (by rw[hxy]),HBe.out,← HXe.out];rfl)
       clear hc1 hi0 hp hy hbf hxy
       go_wp2_with fail
       go_quiet (fail)
       clear wp1 hd0 hdn hxe e1 e2 hpi hpn hi0I
       go_wp2
       go_roundw
       case rel=>exact⟨i+1,Y,by have:=hlt0.out;omega,by go_num,HO.out.ext ((Ext.refl _).drewN _),HVi.out,HE.out.drewN _⟩
       case measure=>have:=hlt0.out;simp[intOf];omega
      ·have hxe:((x.toNat:Int)==(y.toNat:Int))=false:=by rw[beq_eq_false_iff_ne];exact fun e=>hxy (UInt8.toNat_inj.1 (by omega))
       have HV:=hide (show V=Y++((x::enc (yt x (l.drop (i+1))+1))++zu (some x) (l.drop (i+1))) by rw[HVq.out,hbf,if_neg (fun e=>hxy (by injection e with e;exact e.symm))])
       clear hc1 hi0 hp hy hbf hxy
       obtain⟨wp,rfl⟩:∃ W,W=wr:=⟨_,rfl⟩
       go_wp2_with fail
       go_quiet (fail)
       clear wp1 hd0 hdn hxe e1 e2 hpi hpn hi0I
       go_wp2
       go_loopw [7] (fun y wk=>∃ k:Nat,1≤k∧i+k≤n∧y=.int .i64 (k:Int)∧yt x (l.drop (i+1))+1=k+yt x (l.drop (i+k))∧Qt wp wk) (fun y _=>n-(intOf y).toNat)
       case atStart=>exact⟨1,by omega,by have:=hlt0.out;omega,rfl,by omega,⟨_,rfl⟩⟩
       case round =>
        obtain⟨k,hk1,hk2,rfl,hk3,hQ⟩:=hrel
        obtain⟨j,hj⟩:∃ j,j=i+k:=⟨_,rfl⟩
        have hjI:(i:Int)+(k:Int)=(j:Int):=by omega
        have w1:IntKind.i64.wrap ((i:Int)+(k:Int))=(j:Int):=by rw[IntKind.wrap_i64];omega
        obtain⟨-,f1,-,-⟩:=HCell.out wr (HE.out.trans hQ.ext) i hlt0.out
        rw[← HXe.out]at f1
        by_cases hk:j<n
        ·have hjd:decide ((j:Int)<(n:Int))=true:=decide_eq_true (by omega)
         have hjn:decide (j<n)=true:=decide_eq_true hk
         have hjL:(j:Int)<(n:Int):=by omega
         obtain⟨-,f2,-,-⟩:=HCell.out wr (HE.out.trans hQ.ext) j hk
         have hrs:=HRn.out j x hk
         obtain⟨z,hz0⟩:∃ z,z=(l.getD j default).lv:=⟨_,rfl⟩
         rw[← hz0]at f2 hrs
         by_cases hz:z=x
         ·have hzx:((z.toNat:Int)==(x.toNat:Int))=true:=by rw[hz];simp
          rw[if_pos hz]at hrs
          have HK:=hide (show yt x (l.drop (i+1))+1=(k+1)+yt x (l.drop (i+(k+1))) by rw[hk3,← hj,hrs,show i+(k+1)=j+1 by omega];omega)
          have HJ:=hide hj
          clear hz hz0 hrs hk3 hj
          go_wp2_with fail
          go_quiet (fail)
          clear w1 hjd hjn hzx f1 f2 hjI hjL
          go_wp2
          go_roundw
          case rel=>exact⟨k+1,by omega,by have:=HJ.out;omega,by go_num,HK.out,hQ.drewN _⟩
          case measure=>have:=HJ.out;simp[intOf];omega
         ·have hzx:((z.toNat:Int)==(x.toNat:Int))=false:=by rw[beq_eq_false_iff_ne];exact fun e=>hz (UInt8.toNat_inj.1 (by omega))
          rw[if_neg hz]at hrs
          have HRun0:=hide (show yt x (l.drop (i+k))=0 by rw[← hj];exact hrs)
          have HJ:=hide hj
          clear hz hz0 hrs hj
          go_wp2_with fail
          go_quiet (fail)
          clear w1 hjd hjn hzx f1 f2 hjI hjL
          have hR:yt x (l.drop (i+1))+1=k:=by rw[hk3,HRun0.out,Nat.add_zero]
          have HVi:=hide (show V=(Y++[x]++enc k)++zu (before l (i+1)) (l.drop (i+1)) by rw[HV.out,hR,HBe.out,← HXe.out];simp)
          have HEq:=hide (HE.out.trans (hQ.drewN nq).ext)
          have HOq:=hide (HO.out.ext (hQ.drewN nq).ext)
          have hkw:IntKind.u64.wrap (k:Int)=(k:Int):=by rw[IntKind.wrap_u64];omega
          obtain⟨-,g1,-,-⟩:=HCell.out _ HEq.out i hlt0.out
          rw[← HXe.out]at g1
          clear hR hk3 hQ
          generalize hwq:World.drewN wr nq=wq at *
          clear hwq
          have hYl:(T++Y).length≤500000:=by have h1:=HLl.out;have h2:=HTl.out;rw[HV.out,List.length_append]at h1;rw[List.length_append];omega
          have HYl:=hide hYl
          have CN:=fun W=>zx k W (by omega)
          clear hYl
          go_wp2_with (at_builtin;refine ze rfl (.tmp 75) (.tmp 81) rfl rfl (HOq.out.ext (zb wq _)) rfl (zr wq [x] #[.int .u8 (x.toNat:Int)] 5 (0,0) rfl 1 rfl) (by have:=HYl.out;omega) (HEq.out.trans (zb wq _)).le ?_;intro v3 w3 hO3 hG3 _;have HO3:=hide hO3;have HE3:=hide (show Ext w w3 from Below.grown (HEq.out.trans (zb wq _)) hG3 (HEq.out.trans (zb wq _)).le (fun k hk=>(HOq.out.lt k hk).1));clear hO3 hG3 g1)
          refine (CN w3).mono ?_
          rintro e w4 ⟨v4,rfl,hO4,hE4⟩
          obtain⟨A4,c4,hv4,-,-,q4⟩:=hO4.form
          obtain⟨m4,hm4⟩:∃ m,m=(enc k).length:=⟨_,rfl⟩
          have hm10:=enc_len k
          rw[← hm4]at hv4 q4 hm10
          have HQ4:=hide q4
          have HE4:=hide (HE3.out.trans hE4)
          have HO4:=hide (HO3.out.ext hE4)
          subst hv4
          clear hO4 q4 hm4 hE4 CN
          go_wp2_with (at_builtin;refine ze rfl (.tmp 83) (.tmp 86) rfl rfl HO4.out rfl HQ4.out (by have:=HYl.out;rw[List.length_append,List.length_singleton];omega) HE4.out.le ?_;intro v5 w5 hO5 hG5 _;have HO5:=hide hO5;have HE5:=hide (show Ext w w5 from Below.grown HE4.out hG5 HE4.out.le (fun k hk=>(HO4.out.lt k hk).1));clear hO5 hG5)
          go_roundw
          case rel=>exact⟨i+1,Y++[x]++enc k,by have:=hlt0.out;omega,by go_num,by rw[← List.append_assoc,← List.append_assoc];exact HO5.out,HVi.out,HE5.out⟩
          case measure=>have:=hlt0.out;simp[intOf];omega
        ·have hjd:decide ((j:Int)<(n:Int))=false:=decide_eq_false (by omega)
         have hjn:decide (j<n)=false:=decide_eq_false hk
         have HRun0:=hide (show yt x (l.drop (i+k))=0 from HRe.out (i+k) x (by omega))
         have HJ:=hide hj
         clear hj hk
         go_wp2_with fail
         go_quiet (fail)
         clear w1 hjd hjn f1 hjI
         have hR:yt x (l.drop (i+1))+1=k:=by rw[hk3,HRun0.out,Nat.add_zero]
         have HVi:=hide (show V=(Y++[x]++enc k)++zu (before l (i+1)) (l.drop (i+1)) by rw[HV.out,hR,HBe.out,← HXe.out];simp)
         have HEq:=hide (HE.out.trans (hQ.drewN nq).ext)
         have HOq:=hide (HO.out.ext (hQ.drewN nq).ext)
         have hkw:IntKind.u64.wrap (k:Int)=(k:Int):=by rw[IntKind.wrap_u64];omega
         obtain⟨-,g1,-,-⟩:=HCell.out _ HEq.out i hlt0.out
         rw[← HXe.out]at g1
         clear hR hk3 hQ
         generalize hwq:World.drewN wr nq=wq at *
         clear hwq
         have hYl:(T++Y).length≤500000:=by have h1:=HLl.out;have h2:=HTl.out;rw[HV.out,List.length_append]at h1;rw[List.length_append];omega
         have HYl:=hide hYl
         have CN:=fun W=>zx k W (by omega)
         clear hYl
         go_wp2_with (at_builtin;refine ze rfl (.tmp 75) (.tmp 81) rfl rfl (HOq.out.ext (zb wq _)) rfl (zr wq [x] #[.int .u8 (x.toNat:Int)] 5 (0,0) rfl 1 rfl) (by have:=HYl.out;omega) (HEq.out.trans (zb wq _)).le ?_;intro v3 w3 hO3 hG3 _;have HO3:=hide hO3;have HE3:=hide (show Ext w w3 from Below.grown (HEq.out.trans (zb wq _)) hG3 (HEq.out.trans (zb wq _)).le (fun k hk=>(HOq.out.lt k hk).1));clear hO3 hG3 g1)
         refine (CN w3).mono ?_
         rintro e w4 ⟨v4,rfl,hO4,hE4⟩
         obtain⟨A4,c4,hv4,-,-,q4⟩:=hO4.form
         obtain⟨m4,hm4⟩:∃ m,m=(enc k).length:=⟨_,rfl⟩
         have hm10:=enc_len k
         rw[← hm4]at hv4 q4 hm10
         have HQ4:=hide q4
         have HE4:=hide (HE3.out.trans hE4)
         have HO4:=hide (HO3.out.ext hE4)
         subst hv4
         clear hO4 q4 hm4 hE4 CN
         go_wp2_with (at_builtin;refine ze rfl (.tmp 83) (.tmp 86) rfl rfl HO4.out rfl HQ4.out (by have:=HYl.out;rw[List.length_append,List.length_singleton];omega) HE4.out.le ?_;intro v5 w5 hO5 hG5 _;have HO5:=hide hO5;have HE5:=hide (show Ext w w5 from Below.grown HE4.out hG5 HE4.out.le (fun k hk=>(HO4.out.lt k hk).1));clear hO5 hG5)
         go_roundw
         case rel=>exact⟨i+1,Y++[x]++enc k,by have:=hlt0.out;omega,by go_num,by rw[← List.append_assoc,← List.append_assoc];exact HO5.out,HVi.out,HE5.out⟩
         case measure=>have:=hlt0.out;simp[intOf];omega
    ·have hiI:¬ (i:Int)<(n:Int):=by omega
     have hin:i=n:=by omega
     rw[hin,HLe.out,List.append_nil]at hV
     subst hV
     clear hlt hin hO hE
     go_wp2
     go_ret
     exact⟨_,rfl,HO.out,HE.out⟩
end
section
open Go.RowKit Lz
def acX (w:World)(L:List TokV)(e:Ending)(w':World):Prop:=∃ v,e=.returned v∧OwnTk w' w.heap.size v L∧Ext w w'
theorem Lz.run_on {b:List UInt8}{p d k:Nat}(hk:k<257)(h:p+k<b.length∧b.getD (p+k-d) 0=b.getD (p+k) 0):yz b p d (257-k) k=yz b p d (257-(k+1)) (k+1):=by
 rw[show 257-k=257-(k+1)+1 by omega,yz,if_pos h]
theorem Lz.run_off {b:List UInt8}{p d k:Nat}(hk:k<257)(h:¬ (p+k<b.length∧b.getD (p+k-d) 0=b.getD (p+k) 0)):yz b p d (257-k) k=k:=by
 rw[show 257-k=257-(k+1)+1 by omega,yz,if_neg h]
theorem Lz.run_top (b:List UInt8)(p d:Nat):yz b p d (257-257) 257=257:=rfl
set_option maxHeartbeats 4000000 in
set_option maxRecDepth 100000 in
theorem Z3 (A:Option Addr)(n c:Nat)(b:List UInt8)(w:World)(hn:n≤100000)(h:Bytes w w.heap.size A n b):Calls Tryz.prog 87 #[.slice A n c] w (acX w (toks b 0)):=by
 have hl:=h.1
 subst hl
 have HB:=hide h
 have HEnd:=hide (show ∀ p,¬ p<b.length→toks b p=[] from fun p hp=>uT hp)
 have HNext:=hide (show ∀ p,p<b.length→toks b p=xc b p::toks b (p+yM b p) from fun p hp=>vS hp)
 have HIn:=hide (show ∀ p,p<b.length→p+yM b p≤b.length from fun p hp=>Up hp)
 have HPos:=hide (vt b)
 clear h
 go_enter Tryz.func87,Tryz.ntmps87
 go_wp2
 go_loopw [3,4] (fun o a wr=>∃ (p:Nat) (L:List TokV),p≤b.length∧L.length≤p∧a=.int .i64 (p:Int)∧OwnTk wr w.heap.size o L∧L++toks b p=toks b 0∧Ext w wr) (fun _ a _=>b.length-(intOf a).toNat)
 case atStart=>exact⟨0,[],by omega,by simp,rfl,OwnTk.nil _ _,rfl,Ext.refl _⟩
 case round =>
  obtain⟨p,L,hp,hLp,rfl,hO,hL,hE⟩:=hrel
  obtain⟨Ao,co,rfl,_⟩:=hO.form
  by_cases hlt:p<b.length
  ·have hpI:(p:Int)<(b.length:Int):=by omega
   have hBest0:best b p 0=(0,0):=rfl
   have HBest:=hide (show ∀ m,best b p (m+1)=if (best b p m).1<run b p (m+1) then (run b p (m+1),m+1) else best b p m from fun _=>rfl)
   have HLe:=hide (Uo b p)
   have HO:=hide hO
   have HL:=hide hL
   obtain⟨wa,rfl⟩:∃ W,W=wr:=⟨_,rfl⟩
   clear hO hL
   go_wp2_with fail
   go_loopw [5,6,7] (fun x y z wq=>∃ m:Nat,m≤min 4095 p∧x=.int .i64 ((best b p m).1:Int)∧y=.int .i64 ((best b p m).2:Int)∧z=.int .i64 ((m+1:Nat):Int)∧Qt wa wq) (fun _ _ z _=>4097-(intOf z).toNat)
   case atStart=>exact⟨0,by omega,rfl,rfl,rfl,Qt.refl _⟩
   case round =>
    obtain⟨m,hm,rfl,rfl,rfl,hQ⟩:=hrel
    have hbl:=HLe.out m
    have hBn:=HBest.out m
    by_cases hmp:m<min 4095 p
    ·have hm1:((m+1:Nat):Int)≤4095:=by omega
     have hm2:((m+1:Nat):Int)≤(p:Int):=by omega
     obtain⟨⟨bn,bd⟩,hbe⟩:∃ r,r=best b p m:=⟨_,rfl⟩
     rw[← hbe]at hBn hbl ⊢
     dsimp only at hBn hbl ⊢
     have HBn:=hide hBn
     have HQ:=hide hQ
     obtain⟨wb,rfl⟩:∃ W,W=wr:=⟨_,rfl⟩
     clear hBn hbe hQ hBest0
     go_wp2_with fail
     go_loopw [8] (fun x wq=>∃ k:Nat,k≤257∧x=.int .i64 (k:Int)∧yz b p (m+1) (257-k) k=run b p (m+1)∧Qt wa wq) (fun x _=>258-(intOf x).toNat)
     case atStart=>exact⟨0,by omega,rfl,rfl,HQ.out⟩
     case round =>
      obtain⟨k,hk,rfl,hrun,hQ⟩:=hrel
      have HRun:=hide hrun
      clear hrun
      by_cases hk257:k<257
      ·have hkI:(k:Int)<257:=by omega
       have hkd:decide ((k:Int)<257)=true:=decide_eq_true hkI
       by_cases hpk:p+k<b.length
       ·have hpkI:(p:Int)+(k:Int)<(b.length:Int):=by omega
        have hpkd:decide ((p:Int)+(k:Int)<(b.length:Int))=true:=decide_eq_true hpkI
        rcases ((hE.trans hQ.ext).bytes HB.out).2 with h0 | ⟨b1,o1,rfl,_,hc⟩
        ·omega
        have e1:=hc (p+k-(m+1)) (by omega)
        have e2:=hc (p+k) hpk
        have hix:((p:Int)+(k:Int)-((m+1:Nat):Int))=((p+k-(m+1):Nat):Int):=by omega
        have hix0:(0:Int)≤(p:Int)+(k:Int)-((m+1:Nat):Int):=by omega
        clear hc
        by_cases he:b.getD (p+k-(m+1)) 0=b.getD (p+k) 0
        ·have HOn:=hide (run_on hk257 ⟨hpk,he⟩)
         rw[he]at e1
         have hy8:=UInt8.toNat_lt (b.getD (p+k) 0)
         generalize (b.getD (p+k) 0).toNat=y at *
         clear he
         go_wp2_with fail
         go_quiet (fail)
         go_wp2
         go_roundw
         case rel=>exact⟨k+1,by omega,by go_num,by rw[← HOn.out];exact HRun.out,hQ.drewN _⟩
         case measure=>simp[intOf];omega
        ·have hrunK:=HRun.out
         rw[run_off hk257 (fun h=>he h.2)]at hrunK
         have HK:=hide hrunK
         have hy8:=UInt8.toNat_lt (b.getD (p+k-(m+1)) 0)
         have hz8:=UInt8.toNat_lt (b.getD (p+k) 0)
         have hne:(b.getD (p+k-(m+1)) 0).toNat≠(b.getD (p+k) 0).toNat:=fun e=>he (UInt8.toNat_inj.1 e)
         generalize (b.getD (p+k-(m+1)) 0).toNat=y at *
         generalize (b.getD (p+k) 0).toNat=z at *
         have hyz:((y:Int)==(z:Int))=false:=by rw[beq_eq_false_iff_ne];omega
         have hrk:=HBn.out
         rw[← HK.out]at hrk
         clear he hne hrunK
         by_cases hgt:bn<k
         ·rw[if_pos hgt]at hrk
          have HR:=hide hrk
          have hgtI:(bn:Int)<(k:Int):=by omega
          clear hrk
          go_wp2_with fail
          go_quiet (fail)
          go_wp2
          go_roundw
          case rel=>exact⟨m+1,by omega,by rw[HR.out],by rw[HR.out];go_num,by go_num,hQ.drewN _⟩
          case measure=>simp[intOf];omega
         ·rw[if_neg hgt]at hrk
          have HR:=hide hrk
          have hgtI:¬ (bn:Int)<(k:Int):=by omega
          clear hrk
          go_wp2_with fail
          go_quiet (fail)
          go_wp2
          go_roundw
          case rel=>exact⟨m+1,by omega,by rw[HR.out],by rw[HR.out],by go_num,hQ.drewN _⟩
          case measure=>simp[intOf];omega
       ·have hpkd:decide ((p:Int)+(k:Int)<(b.length:Int))=false:=decide_eq_false (by omega)
        have hrunK:=HRun.out
        rw[run_off hk257 (fun h=>hpk h.1)]at hrunK
        have HK:=hide hrunK
        have hrk:=HBn.out
        rw[← HK.out]at hrk
        clear hrunK
        by_cases hgt:bn<k
        ·rw[if_pos hgt]at hrk
         have HR:=hide hrk
         have hgtI:(bn:Int)<(k:Int):=by omega
         clear hrk
         go_wp2_with fail
         go_quiet (fail)
         go_wp2
         go_roundw
         case rel=>exact⟨m+1,by omega,by rw[HR.out],by rw[HR.out];go_num,by go_num,hQ.drewN _⟩
         case measure=>simp[intOf];omega
        ·rw[if_neg hgt]at hrk
         have HR:=hide hrk
         have hgtI:¬ (bn:Int)<(k:Int):=by omega
         clear hrk
         go_wp2_with fail
         go_quiet (fail)
         go_wp2
         go_roundw
         case rel=>exact⟨m+1,by omega,by rw[HR.out],by rw[HR.out],by go_num,hQ.drewN _⟩
         case measure=>simp[intOf];omega
      ·obtain rfl:k=257:=by omega
       have hkd:decide (((257:Nat):Int)<257)=false:=decide_eq_false (by omega)
       have hrk:=HBn.out
       rw[← HRun.out,run_top]at hrk
       by_cases hgt:bn<257
       ·rw[if_pos hgt]at hrk
        have HR:=hide hrk
        have hgtI:(bn:Int)<((257:Nat):Int):=by omega
        clear hrk
        go_wp2_with fail
        go_quiet (fail)
        go_wp2
        go_roundw
        case rel=>exact⟨m+1,by omega,by rw[HR.out],by rw[HR.out];go_num,by go_num,hQ.drewN _⟩
        case measure=>simp[intOf];omega
       ·rw[if_neg hgt]at hrk
        have HR:=hide hrk
        have hgtI:¬ (bn:Int)<((257:Nat):Int):=by omega
        clear hrk
        go_wp2_with fail
        go_quiet (fail)
        go_wp2
        go_roundw
        case rel=>exact⟨m+1,by omega,by rw[HR.out],by rw[HR.out],by go_num,hQ.drewN _⟩
        case measure=>simp[intOf];omega
    ·obtain rfl:m=min 4095 p:=by omega
     have hpos:=HPos.out p
     have hin:=HIn.out p hlt
     have hnx:=HNext.out p hlt
     have hTok:=hide (show xc b p=if 3≤(yE b p).1 then ⟨0,((yE b p).1:Int),((yE b p).2:Int)⟩ else ⟨b.getD p 0,0,0⟩ from rfl)
     have hStep:=hide (show yM b p=if 3≤(yE b p).1 then (yE b p).1 else 1 from rfl)
     have HNx:=hide hnx
     change (yE b p).1≤257∧_ at hbl
     have hBe:best b p (min 4095 p)=yE b p:=rfl
     rw[hBe]at hbl ⊢
     generalize yE b p=r at *
     obtain⟨bn,bd⟩:=r
     dsimp only at hbl ⊢
     have hbd:bd≤4095:=by omega
     have hEq:=hE.trans hQ.ext
     have hOq:=HO.out.ext hQ.ext
     have hLn:L.length≤1000000:=by omega
     clear hnx hBn hBe hBest0
     have hT:=hTok.out
     have hS:=hStep.out
     dsimp only at hT hS
     clear hTok hStep hpos
     by_cases h4:min 4095 p+1≤4095
     ·have h4I:((min 4095 p+1:Nat):Int)≤4095:=by omega
      have h5I:¬ ((min 4095 p+1:Nat):Int)≤(p:Int):=by omega
      obtain⟨mm,hmm⟩:∃ mm,mm=min 4095 p:=⟨_,rfl⟩
      rw[← hmm]at h4I h5I hbl hm ⊢
      clear hmm h4 hmp
      by_cases h3:3≤bn
      ·rw[if_pos h3]at hT hS
       have h3I:(3:Int)≤(bn:Int):=by omega
       have HT:=hide hT
       have HS:=hide hS
       have hEa:=zb wr (.cells #[.int .u8 0,.int .i64 (bn:Int),.int .i64 (bd:Int)] 157)
       have hOa:=hOq.ext hEa
       have hbs:w.heap.size≤wr.heap.size:=hEq.le
       clear hT hS
       go_wp2_with (at_builtin;refine xb rfl (.tmp 58) (.tmp 62) rfl rfl ⟨0,(bn:Int),(bd:Int)⟩ hOa rfl hLn hbs ?_;intro v5 w5 hO5 hG5 _)
       have hE5:Ext w w5:=Below.grown (hEq.trans hEa) hG5 (hEq.trans hEa).le (fun k hk=>(hOq.lt k hk).1)
       go_roundw
       case rel=>exact⟨p+bn,L++[⟨0,(bn:Int),(bd:Int)⟩],by rw[HS.out]at hin;exact hin,by rw[List.length_append];simp;omega,by go_num,hO5,by rw[List.append_assoc,← HL.out,HNx.out,HT.out,HS.out];rfl,hE5⟩
       case measure=>simp[intOf];omega
      ·rw[if_neg h3]at hT hS
       have h3I:¬ (3:Int)≤(bn:Int):=by omega
       rcases (hEq.bytes HB.out).2 with h0 | ⟨b1,o1,rfl,_,hc⟩
       ·omega
       have e1:=hc p hlt
       have HT:=hide hT
       have HS:=hide hS
       have hEa:=zb wr (.cells #[.int .u8 ((b.getD p 0).toNat:Int),.int .i64 0,.int .i64 0] 157)
       have hOa:=hOq.ext hEa
       have hbs:w.heap.size≤wr.heap.size:=hEq.le
       have HTk:=hide (show ∀ y,y=b.getD p 0→(⟨y,0,0⟩:TokV)=⟨b.getD p 0,0,0⟩ from fun y e=>by rw[e])
       obtain⟨y,hy⟩:∃ y,y=b.getD p 0:=⟨_,rfl⟩
       rw[← hy]at e1 hEa hOa
       have HTy:=hide (HTk.out y hy)
       clear hT hS hc hy HTk
       go_wp2_with (at_builtin;refine xb rfl (.tmp 67) (.tmp 73) rfl rfl ⟨y,0,0⟩ hOa rfl hLn hbs ?_;intro v5 w5 hO5 hG5 _)
       have hE5:Ext w w5:=Below.grown (hEq.trans hEa) hG5 (hEq.trans hEa).le (fun k hk=>(hOq.lt k hk).1)
       go_roundw
       case rel=>exact⟨p+1,L++[⟨y,0,0⟩],by omega,by rw[List.length_append];simp;omega,by go_num,hO5,by rw[List.append_assoc,← HL.out,HNx.out,HT.out,HS.out,HTy.out];rfl,hE5⟩
       case measure=>simp[intOf];omega
     ·have h4I:¬ ((min 4095 p+1:Nat):Int)≤4095:=by omega
      obtain⟨mm,hmm⟩:∃ mm,mm=min 4095 p:=⟨_,rfl⟩
      rw[← hmm]at h4I hbl hm ⊢
      clear hmm h4 hmp
      by_cases h3:3≤bn
      ·rw[if_pos h3]at hT hS
       have h3I:(3:Int)≤(bn:Int):=by omega
       have HT:=hide hT
       have HS:=hide hS
       have hEa:=zb wr (.cells #[.int .u8 0,.int .i64 (bn:Int),.int .i64 (bd:Int)] 157)
       have hOa:=hOq.ext hEa
       have hbs:w.heap.size≤wr.heap.size:=hEq.le
       clear hT hS
       go_wp2_with (at_builtin;refine xb rfl (.tmp 58) (.tmp 62) rfl rfl ⟨0,(bn:Int),(bd:Int)⟩ hOa rfl hLn hbs ?_;intro v5 w5 hO5 hG5 _)
       have hE5:Ext w w5:=Below.grown (hEq.trans hEa) hG5 (hEq.trans hEa).le (fun k hk=>(hOq.lt k hk).1)
       go_roundw
       case rel=>exact⟨p+bn,L++[⟨0,(bn:Int),(bd:Int)⟩],by rw[HS.out]at hin;exact hin,by rw[List.length_append];simp;omega,by go_num,hO5,by rw[List.append_assoc,← HL.out,HNx.out,HT.out,HS.out];rfl,hE5⟩
       case measure=>simp[intOf];omega
      ·rw[if_neg h3]at hT hS
       have h3I:¬ (3:Int)≤(bn:Int):=by omega
       rcases (hEq.bytes HB.out).2 with h0 | ⟨b1,o1,rfl,_,hc⟩
       ·omega
       have e1:=hc p hlt
       have HT:=hide hT
       have HS:=hide hS
       have hEa:=zb wr (.cells #[.int .u8 ((b.getD p 0).toNat:Int),.int .i64 0,.int .i64 0] 157)
       have hOa:=hOq.ext hEa
       have hbs:w.heap.size≤wr.heap.size:=hEq.le
       have HTk:=hide (show ∀ y,y=b.getD p 0→(⟨y,0,0⟩:TokV)=⟨b.getD p 0,0,0⟩ from fun y e=>by rw[e])
       obtain⟨y,hy⟩:∃ y,y=b.getD p 0:=⟨_,rfl⟩
       rw[← hy]at e1 hEa hOa
       have HTy:=hide (HTk.out y hy)
       clear hT hS hc hy HTk
       go_wp2_with (at_builtin;refine xb rfl (.tmp 67) (.tmp 73) rfl rfl ⟨y,0,0⟩ hOa rfl hLn hbs ?_;intro v5 w5 hO5 hG5 _)
       have hE5:Ext w w5:=Below.grown (hEq.trans hEa) hG5 (hEq.trans hEa).le (fun k hk=>(hOq.lt k hk).1)
       go_roundw
       case rel=>exact⟨p+1,L++[⟨y,0,0⟩],by omega,by rw[List.length_append];simp;omega,by go_num,hO5,by rw[List.append_assoc,← HL.out,HNx.out,HT.out,HS.out,HTy.out];rfl,hE5⟩
       case measure=>simp[intOf];omega
  ·obtain rfl:p=b.length:=by omega
   rw[HEnd.out _ (by omega),List.append_nil]at hL
   have HL:=hide hL
   have HO:=hide hO
   clear hL hO
   go_wp2
   go_ret
   refine⟨_,rfl,?_,hE⟩
   rw[← HL.out]
   exact HO.out
end
section
open Go.RowKit Lz
def jA (t:TokV):Value:=.agg #[.int .u8 (t.lit.toNat:Int),.int .i64 t.len,.int .i64 t.dist]
theorem Lz.may_lit {t:TokV}(h:t.len=0):may t=decide (t.dist=0):=by unfold may;rw[if_pos h]
theorem Lz.may_match {t:TokV}(h:t.len≠0):may t=decide (t.lit=0∧3≤t.len∧t.len≤257∧1≤t.dist∧t.dist≤4095):=by unfold may;rw[if_neg h]
set_option maxHeartbeats 2000000 in
set_option maxRecDepth 100000 in
theorem JQ (t:TokV)(w:World):Calls Tryz.prog 150 #[jA t] w fun e w'=>e=.returned (.bool (may t))∧Ext w w':=by
 have hE1:=zb w (.cells #[.int .u8 (t.lit.toNat:Int),.int .i64 t.len,.int .i64 t.dist] 157)
 have hW1:=Whole.new w 157 #[.int .u8 (t.lit.toNat:Int),.int .i64 t.len,.int .i64 t.dist]
 have c0:=hW1.at 0 rfl
 have c1:=hW1.at 1 rfl
 have c2:=hW1.at 2 rfl
 have hl8:=UInt8.toNat_lt t.lit
 have HLit:=hide (show t.lit.toNat=0↔t.lit=0 from ⟨fun h=>UInt8.toNat_inj.1 h,fun h=>by rw[h];rfl⟩)
 unfold jA
 by_cases h0:t.len=0
 ·have HM:=hide (may_lit h0)
  generalize may t=res at *
  obtain⟨tl,tn,td⟩:=t
  dsimp only at *
  subst h0
  by_cases hd:td=0
  ·have HR:=hide (show res=true by rw[HM.out];exact decide_eq_true hd)
   subst hd
   clear HM HLit
   go_enter Tryz.func150,Tryz.ntmps150
   go_wp2
   go_ret
   exact⟨zf HR.out.symm,hE1⟩
  ·have HR:=hide (show res=false by rw[HM.out];exact decide_eq_false hd)
   have hdb:(td==0)=false:=by rw[beq_eq_false_iff_ne];exact hd
   clear HM HLit
   go_enter Tryz.func150,Tryz.ntmps150
   go_wp2
   go_ret
   exact⟨zf HR.out.symm,hE1⟩
 ·have HM:=hide (may_match h0)
  generalize may t=res at *
  obtain⟨tl,tn,td⟩:=t
  dsimp only at *
  have h0b:(tn==0)=false:=by rw[beq_eq_false_iff_ne];exact h0
  have HNo:=hide (show ¬ (tl=0∧3≤tn∧tn≤257∧1≤td∧td≤4095)→res=false from fun h=>by rw[HM.out];exact decide_eq_false h)
  have HYes:=hide (show (tl=0∧3≤tn∧tn≤257∧1≤td∧td≤4095)→res=true from fun h=>by rw[HM.out];exact decide_eq_true h)
  obtain⟨y,hy⟩:∃ y,y=tl.toNat:=⟨_,rfl⟩
  rw[← hy]at c0 c1 c2 hE1 hl8 HLit ⊢
  clear HM hy hW1
  by_cases g1:y=0
  ·have hl0:=HLit.out.1 g1
   subst g1
   by_cases g2:3≤tn
   ·by_cases g3:tn≤257
    ·by_cases g4:1≤td
     ·by_cases g5:td≤4095
      ·have HR:=hide (HYes.out ⟨hl0,g2,g3,g4,g5⟩)
       clear HYes HNo HLit hl0
       go_enter Tryz.func150,Tryz.ntmps150
       go_wp2
       go_ret
       exact⟨zf HR.out.symm,hE1⟩
      ·have HR:=hide (HNo.out fun h=>g5 h.2.2.2.2)
       clear HYes HNo HLit hl0
       go_enter Tryz.func150,Tryz.ntmps150
       go_wp2
       go_ret
       exact⟨zf HR.out.symm,hE1⟩
     ·have HR:=hide (HNo.out fun h=>g4 h.2.2.2.1)
      clear HYes HNo HLit hl0
      go_enter Tryz.func150,Tryz.ntmps150
      go_wp2
      go_ret
      exact⟨zf HR.out.symm,hE1⟩
    ·have HR:=hide (HNo.out fun h=>g3 h.2.2.1)
     clear HYes HNo HLit hl0
     go_enter Tryz.func150,Tryz.ntmps150
     go_wp2
     go_ret
     exact⟨zf HR.out.symm,hE1⟩
   ·have HR:=hide (HNo.out fun h=>g2 h.2.1)
    clear HYes HNo HLit hl0
    go_enter Tryz.func150,Tryz.ntmps150
    go_wp2
    go_ret
    exact⟨zf HR.out.symm,hE1⟩
  ·have HR:=hide (HNo.out fun h=>g1 (HLit.out.2 h.1))
   have hyb:((y:Int)==0)=false:=by rw[beq_eq_false_iff_ne];omega
   clear HYes HNo HLit
   go_enter Tryz.func150,Tryz.ntmps150
   go_wp2
   go_ret
   exact⟨zf HR.out.symm,hE1⟩
theorem TokAt.cells {w:World}{g o:Nat}{t:TokV}(h:TokAt w g o t):w.cell? ⟨g,o,none⟩=some (.int .u8 (t.lit.toNat:Int))∧w.cell? ⟨g,o+1,none⟩=some (.int .i64 t.len)∧w.cell? ⟨g,o+2,none⟩=some (.int .i64 t.dist):=h
end
section
open Go.RowKit Lz Tok
def pcV (p:PcV):Value:=.agg #[.int .i64 p.sym,.int .i64 p.len,.int .i64 p.dist,.int .i64 p.far]
theorem yh:(Tryz.prog.info? 153).map (·.size)=some 4:=by kernel_rfl
theorem qd (a b c d:Int):(#[.int .i64 a,.int .i64 b,.int .i64 c,.int .i64 d]:Array Value).all (·.oneCell')=true:=by
 simp
 exact⟨rfl,rfl,rfl,rfl⟩
theorem x8:(Tryz.prog.info? 157).map (·.size)=some 3:=by kernel_rfl
set_option maxHeartbeats 1000000 in
theorem VP (v:Nat)(h1:1≤v)(h2:v≤4095)(w:World):Calls Tryz.prog 151 #[.int .i64 (v:Int)] w fun e w'=>e=.returned (.tuple #[.int .i64 ((Nat.log2 v:Nat):Int),.int .i64 ((v-2 ^ Nat.log2 v:Nat):Int)])∧Ext w w':=by
 go_enter Tryz.func151,Tryz.ntmps151
 go_wp2
 go_loopw [4,5] (fun x y wr=>∃ b p:Nat,b≤11∧p=2 ^ b∧p≤v∧x=.int .i64 (b:Int)∧y=.int .i64 (p:Int)∧wr=w) (fun x _ _=>12-(intOf x).toNat)
 case atStart=>exact⟨0,1,by omega,rfl,h1,rfl,rfl,rfl⟩
 case round =>
  obtain⟨b,p,hb,hp,hpv,rfl,rfl,rfl⟩:=hrel
  have HP:=hide hp
  by_cases hlt:2*p≤v
  ·have hI:2*(p:Int)≤(v:Int):=by omega
   have hb10:b≤10:=by
    refine Classical.byContradiction fun hc=>?_
    have:=jo (k:=11) (m:=b) (by omega)
    omega
   have HS:=hide (show 2*p=2 ^ (b+1) by rw[Nat.pow_succ,← HP.out,Nat.mul_comm])
   clear hp
   go_wp2
   go_roundw
   case rel=>exact⟨b+1,2*p,by omega,HS.out,hlt,by go_num,by go_num,trivial⟩
   case measure=>simp[intOf];omega
  ·have hI:¬ 2*(p:Int)≤(v:Int):=by omega
   have HL:=hide (acz (v:=v) (b:=b) (by omega) (by rw[Nat.pow_succ];omega))
   clear hp
   go_wp2
   go_ret2
   rw[HL.out,← HP.out]
   exact⟨congrArg (fun z=>Ending.returned (.tuple #[.int .i64 (b:Int),.int .i64 z])) (by omega),Ext.refl _⟩
def jx (w:World)(r:PcV×Int)(e:Ending)(w':World):Prop:=e=.returned (.tuple #[pcV r.1,.int .i64 r.2])∧Ext w w'
set_option maxHeartbeats 2000000 in
set_option maxRecDepth 100000 in
theorem qR (t:TokV)(w:World):Calls Tryz.prog 120 #[jA t] w (jx w (zC t)):=by
 have hE1:=(zb w (.cells #[.int .u8 (t.lit.toNat:Int),.int .i64 t.len,.int .i64 t.dist] 157)).alloc (.cells #[.int .i64 0,.int .i64 0,.int .i64 0,.int .i64 0] 153)
 have hW1:=(Whole.new w 157 #[.int .u8 (t.lit.toNat:Int),.int .i64 t.len,.int .i64 t.dist]).alloc (.cells #[.int .i64 0,.int .i64 0,.int .i64 0,.int .i64 0] 153)
 have hP1:=Whole.new (w.alloc (.cells #[.int .u8 (t.lit.toNat:Int),.int .i64 t.len,.int .i64 t.dist] 157)) 153 #[.int .i64 0,.int .i64 0,.int .i64 0,.int .i64 0]
 rw[World.size_alloc]at hP1
 have CM:=fun W=>JQ t W
 unfold jA at CM ⊢
 cases hm:may t with
 | false =>
  rw[hm]at CM
  have HN:=hide (jn hm)
  generalize zC t=res at *
  clear hm
  generalize t.lit.toNat=y at *
  generalize t.len=tn at *
  generalize t.dist=td at *
  go_enter Tryz.func120,Tryz.ntmps120
  go_wp2_with (refine wpList_load_row rfl 157 (.tmp 1) rfl _ rfl _ _ _ _ hW1 Tryz.underlying157 rfl x8 ?_)
  refine (CM _).mono ?_
  rintro e w2 ⟨rfl,hE2⟩
  have hP2:=hP1.ext hE2
  clear CM
  go_wp2_with (refine zh rfl 153 (.tmp 2) (.tmp 11) rfl rfl rfl hP2 rfl yh (qd ..) ?_;intro w5 hW5 hG5 _)
  refine bodyPost_ret (zH rfl _ rfl rfl (run_loadVar_row _ _ _ _ _ _ _ hW5 Tryz.underlying153 rfl yh)) rfl ?_
  have hE:=hE1.trans hE2
  rw[HN.out]
  exact⟨rfl,Below.grown hE hG5 hE.le (fun k hk=>by cases hk;omega)⟩
 | true =>
  rw[hm]at CM
  have hwp:=hP1.lt
  by_cases h0:t.len=0
  ·have HN:=hide (xq hm h0)
   generalize zC t=res at *
   rw[h0]at CM hE1 hW1 hP1 ⊢
   clear hm h0
   have h8:=UInt8.toNat_lt t.lit
   generalize t.lit.toNat=y at *
   generalize t.dist=td at *
   go_enter Tryz.func120,Tryz.ntmps120
   go_wp2_with (refine wpList_load_row rfl 157 (.tmp 1) rfl _ rfl _ _ _ _ hW1 Tryz.underlying157 rfl x8 ?_)
   refine (CM _).mono ?_
   rintro e w2 ⟨rfl,hE2⟩
   have hP2:=hP1.ext hE2
   have hW2:=hW1.ext hE2
   have c0:=hW2.at 0 (u:=.int .u8 (y:Int)) rfl
   have c1:=hW2.at 1 (u:=.int .i64 0) rfl
   clear CM
   go_wp2_with (refine zh rfl 153 (.tmp 2) (.tmp 18) rfl rfl rfl hP2 rfl yh (qd ..) ?_;intro w5 hW5 hG5 _)
   refine bodyPost_ret (zH rfl _ rfl rfl (run_loadVar_row _ _ _ _ _ _ _ hW5 Tryz.underlying153 rfl yh)) rfl ?_
   have hE:=hE1.trans hE2
   rw[HN.out]
   exact⟨rfl,Below.grown hE hG5 hE.le (fun k hk=>by cases hk;omega)⟩
  ·obtain⟨_,m1,m2,m3,m4⟩:=may_facts hm h0
   obtain⟨v,hv⟩:=Int.eq_ofNat_of_zero_le (show 0≤t.len-2 by omega)
   obtain⟨d,hd⟩:=Int.eq_ofNat_of_zero_le (show 0≤t.dist by omega)
   have hlv:t.len=(v:Int)+2:=by omega
   have HN:=hide (show zC t=(⟨257+(Nat.log2 v:Nat),(v-2 ^ Nat.log2 v:Nat),(Nat.log2 d:Nat),(d-2 ^ Nat.log2 d:Nat)⟩,0) by
    unfold zC
    rw[if_neg (by rw[hm];simp),if_neg h0,hv,hd,Int.toNat_natCast,Int.toNat_natCast])
   have C1:=fun W=>VP v (by omega) (by omega) W
   have C2:=fun W=>VP d (by omega) (by omega) W
   have b1:Nat.log2 v<8:=jU (by omega) (by omega)
   have b2:Nat.log2 d<12:=jU (by omega) (by omega)
   generalize zC t=res at *
   rw[hlv,hd]at CM hE1 hW1 hP1 ⊢
   have hv8:v≤255:=by omega
   have hd4:d≤4095:=by omega
   clear hm h0 m1 m2 m3 m4 hv hd hlv
   generalize t.lit.toNat=y at *
   generalize v-2 ^ Nat.log2 v=x1 at *
   generalize d-2 ^ Nat.log2 d=x2 at *
   generalize Nat.log2 v=l1 at *
   generalize Nat.log2 d=l2 at *
   have hlb:(((v:Int)+2)==0)=false:=by rw[beq_eq_false_iff_ne];omega
   go_enter Tryz.func120,Tryz.ntmps120
   go_wp2_with (refine wpList_load_row rfl 157 (.tmp 1) rfl _ rfl _ _ _ _ hW1 Tryz.underlying157 rfl x8 ?_)
   refine (CM _).mono ?_
   rintro e w2 ⟨rfl,hE2⟩
   have hP2:=hP1.ext hE2
   have hW2:=hW1.ext hE2
   have c1:=hW2.at 1 (u:=.int .i64 ((v:Int)+2)) rfl
   clear CM
   go_wp2_with fail
   have hv2:(v:Int)+2-2=(v:Int):=by omega
   try rw[hv2]
   refine (C1 _).mono ?_
   rintro e w3 ⟨rfl,hE3⟩
   have hP3:=hP2.ext hE3
   have hW3:=hW2.ext hE3
   have c2:=hW3.at 2 (u:=.int .i64 (d:Int)) rfl
   clear C1
   go_wp2_with fail
   refine (C2 _).mono ?_
   rintro e w4 ⟨rfl,hE4⟩
   have hP4:=hP3.ext hE4
   have hE:=((hE1.trans hE2).trans hE3).trans hE4
   clear C2
   go_wp2_with (refine zh rfl 153 (.tmp 2) (.tmp 37) rfl rfl rfl hP4 rfl yh (qd ..) ?_;intro w5 hW5 hG5 _)
   refine bodyPost_ret (zH rfl _ rfl rfl (run_loadVar_row _ _ _ _ _ _ _ hW5 Tryz.underlying153 rfl yh)) rfl ?_
   rw[HN.out]
   exact⟨rfl,Below.grown hE hG5 hE.le (fun k hk=>by cases hk;omega)⟩
end
section
open Go.RowKit Lz
set_option maxHeartbeats 1000000 in
set_option maxRecDepth 100000 in
theorem JR (A B:Option Addr)(n m c d:Nat)(x y:List UInt8)(w:World)(hx:Bytes w w.heap.size A n x)(hy:Bytes w w.heap.size B m y) :
  Calls Tryz.prog 174 #[.slice A n c,.slice B m d] w fun e w'=>e=.returned (.bool (decide (x=y)))∧w=w':=by
 have v1:=xg c hx (fun h=>by subst h;rcases hx.2 with h | ⟨_,_,h,_⟩;exact h;cases h)
 have v2:=xg d hy (fun h=>by subst h;rcases hy.2 with h | ⟨_,_,h,_⟩;exact h;cases h)
 clear hx hy
 go_enter Tryz.func174,Tryz.ntmps174
 go_wp2
 go_ret
 exact⟨zf (by rw[Bool.eq_iff_iff];simp),rfl⟩
theorem Lz.same_on {b:List UInt8}{q d f k:Nat}(hf:k<f)(h:q+k<b.length∧b.getD (q+k-d) 0=b.getD (q+k) 0):yz b q d (f-k) k=yz b q d (f-(k+1)) (k+1):=by
 rw[show f-k=f-(k+1)+1 by omega,yz,if_pos h]
theorem Lz.same_off {b:List UInt8}{q d f k:Nat}(hf:k<f)(h:¬ (q+k<b.length∧b.getD (q+k-d) 0=b.getD (q+k) 0)):yz b q d (f-k) k=k:=by
 rw[show f-k=f-(k+1)+1 by omega,yz,if_neg h]
theorem Lz.same_top (b:List UInt8)(q d f:Nat):yz b q d (f-f) f=f:=by rw[Nat.sub_self];rfl
set_option maxHeartbeats 4000000 in
set_option maxRecDepth 100000 in
theorem Q2 (A:Option Addr)(n c:Nat)(b:List UInt8)(p q k most:Nat)(w:World)(hn:n≤100000)(hpq:p≤q)(hk:k≤most)(hm:q+most≤n)(h:Bytes w w.heap.size A n b) :
  Calls Tryz.prog 161 #[.slice A n c,.int .i64 (p:Int),.int .i64 (q:Int),.int .i64 (k:Int),.int .i64 (most:Int)] w fun e w'=>e=.returned (.int .i64 (yz b q (q-p) (most-k) k:Int))∧Ext w w':=by
 have hl:=h.1
 subst hl
 have HB:=hide h
 have HK:=hide hk
 obtain⟨res,hres⟩:∃ res,yz b q (q-p) (most-k) k=res:=⟨_,rfl⟩
 rw[hres]
 have HR:=hide hres
 clear h hk hres
 go_enter Tryz.func161,Tryz.ntmps161
 go_wp2
 go_loopw [3] (fun x wr=>∃ k:Nat,k≤most∧x=.int .i64 (k:Int)∧yz b q (q-p) (most-k) k=res∧Qt w wr) (fun x _=>most-(intOf x).toNat)
 case atStart=>exact⟨k,HK.out,rfl,HR.out,Qt.refl _⟩
 case round =>
  clear HK HR
  obtain⟨k,hk,rfl,hR,hQ⟩:=hrel
  have HR:=hide hR
  clear hR
  by_cases hkm:k<most
  ·have hkI:(k:Int)<(most:Int):=by omega
   have hkd:decide ((k:Int)<(most:Int))=true:=decide_eq_true hkI
   rcases (hQ.ext.bytes HB.out).2 with h0 | ⟨b1,o1,rfl,_,hc⟩
   ·omega
   have e1:=hc (p+k) (by omega)
   have e2:=hc (q+k) (by omega)
   clear hc
   have hix:q+k-(q-p)=p+k:=by omega
   have hin:q+k<b.length:=by omega
   have HOn:=hide (show b.getD (p+k) 0=b.getD (q+k) 0→yz b q (q-p) (most-k) k=yz b q (q-p) (most-(k+1)) (k+1) from fun h=>same_on hkm ⟨hin,by rw[hix];exact h⟩)
   have HOff:=hide (show ¬ b.getD (p+k) 0=b.getD (q+k) 0→yz b q (q-p) (most-k) k=k from fun h=>same_off hkm (fun hh=>h (by rw[← hix];exact hh.2)))
   generalize b.getD (p+k) 0=y at *
   generalize b.getD (q+k) 0=z at *
   by_cases he:y=z
   ·subst he
    have hOn:=HOn.out rfl
    rw[HR.out]at hOn
    have HR2:=hide hOn
    have hy8:=UInt8.toNat_lt y
    generalize y.toNat=yy at *
    clear HOff HOn HR hOn
    go_wp2_with fail
    go_quiet (fail)
    go_wp2
    go_roundw
    case rel=>exact⟨k+1,by omega,by go_num,HR2.out.symm,hQ.drewN _⟩
    case measure=>simp[intOf];omega
   ·have hOff:=HOff.out he
    rw[HR.out]at hOff
    have HR2:=hide hOff
    have hy8:=UInt8.toNat_lt y
    have hz8:=UInt8.toNat_lt z
    have hne:y.toNat≠z.toNat:=fun e=>he (UInt8.toNat_inj.1 e)
    generalize y.toNat=yy at *
    generalize z.toNat=zz at *
    have hyz:((yy:Int)==(zz:Int))=false:=by rw[beq_eq_false_iff_ne];omega
    clear HOff HOn HR hOff he hne
    go_wp2_with fail
    go_quiet (fail)
    go_wp2
    go_ret
    exact⟨zi (by rw[HR2.out]),(hQ.drewN _).ext⟩
  ·obtain rfl:k=most:=by omega
   have hkd:decide ((k:Int)<(k:Int))=false:=decide_eq_false (by omega)
   have hT:=same_top b q (q-p) k
   rw[HR.out]at hT
   have HR2:=hide hT
   clear HR hT
   go_wp2_with fail
   go_quiet (fail)
   go_wp2
   go_ret
   exact⟨zi (by rw[HR2.out]),(hQ.drewN _).ext⟩
set_option maxHeartbeats 4000000 in
set_option maxRecDepth 100000 in
theorem UJ (A:Option Addr)(n c:Nat)(b:List UInt8)(p q k:Nat)(w:World)(hn:n≤100000)(hnc:n≤c)(hpq:p≤q)(hm:q+k<n)(h:Bytes w w.heap.size A n b) :
  Calls Tryz.prog 160 #[.slice A n c,.int .i64 (p:Int),.int .i64 (q:Int),.int .i64 (k:Int)] w fun e w'=>e=.returned (.bool (decide (b.getD (p+k) 0=b.getD (q+k) 0) && decide ((b.drop p).take k=(b.drop q).take k)))∧Ext w w':=by
 have hb1:=(h.drop (k:=p) (by omega) hnc).take (k:=k) (by omega)
 have hb2:=(h.drop (k:=q) (by omega) hnc).take (k:=k) (by omega)
 have CE:=fun j=>JR (zQ A c p) (zQ A c q) k k (c-p) (c-q) _ _ (w.drewN j) (hb1.below ((Ext.refl w).drewN j) (Nat.le_refl _)) (hb2.below ((Ext.refl w).drewN j) (Nat.le_refl _))
 have hl:=h.1
 subst hl
 have r1:=fun W=>Uh W A b.length c .i64 .i64 (p:Int) ((p:Int)+(k:Int)) (by omega) (by omega) (by omega)
 have r2:=fun W=>Uh W A b.length c .i64 .i64 (q:Int) ((q:Int)+(k:Int)) (by omega) (by omega) (by omega)
 rw[show ((p:Int)+(k:Int)).toNat-(p:Int).toNat=k by omega,Int.toNat_natCast]at r1
 rw[show ((q:Int)+(k:Int)).toNat-(q:Int).toNat=k by omega,Int.toNat_natCast]at r2
 rcases h.2 with h0 | ⟨b1,o1,rfl,_,hc⟩
 ·omega
 have e1:=hc (p+k) (by omega)
 have e2:=hc (q+k) (by omega)
 generalize (b.drop p).take k=x at *
 generalize (b.drop q).take k=y at *
 generalize b.getD (p+k) 0=s at *
 generalize b.getD (q+k) 0=t at *
 generalize zQ (some ⟨b1,o1,none⟩) c p=A1 at *
 generalize zQ (some ⟨b1,o1,none⟩) c q=A2 at *
 clear hb1 hb2 hc h
 by_cases he:s=t
 ·subst he
  have hr:(decide (s=s) && decide (x=y))=decide (x=y):=by simp
  rw[hr]
  have HR:=hide hr
  have hy8:=UInt8.toNat_lt s
  generalize s.toNat=yy at *
  generalize decide (x=y)=r at *
  clear hr HR
  go_enter Tryz.func160,Tryz.ntmps160
  go_wp2_with fail
  go_quiet (first | (go_at_call 174;exact Calls.quiet_of ((CE _).mono fun _ _ ⟨he,hw⟩=>⟨he,0,hw.symm⟩)))
  go_wp2
  go_ret
  exact⟨rfl,(Ext.refl w).drewN _⟩
 ·have hr:(decide (s=t) && decide (x=y))=false:=by rw[decide_eq_false he];rfl
  rw[hr]
  have hy8:=UInt8.toNat_lt s
  have hz8:=UInt8.toNat_lt t
  have hne:s.toNat≠t.toNat:=fun e=>he (UInt8.toNat_inj.1 e)
  generalize s.toNat=yy at *
  generalize t.toNat=zz at *
  have hyz:((yy:Int)==(zz:Int))=false:=by rw[beq_eq_false_iff_ne];omega
  clear hr he hne CE r1 r2
  go_enter Tryz.func160,Tryz.ntmps160
  go_wp2_with fail
  go_quiet (fail)
  go_wp2
  go_ret
  exact⟨rfl,(Ext.refl w).drewN _⟩
end
section
open Go.RowKit Lz
def acY (t:TokV):Array Value:=#[.int .u8 (t.lit.toNat:Int),.int .i64 t.len,.int .i64 t.dist]
theorem vy:(Tryz.prog.info? 157).map (·.size)=some 3:=by kernel_rfl
theorem acZ (t:TokV):(acY t).all (·.oneCell')=true:=by simp[acY,Value.oneCell']
def TrailAt (w:World)(g:Nat)(b:List UInt8):Prop:=∀ p,p<b.length→w.cell? ⟨g,p,none⟩=some (.int .u16 (zp b p:Int))
theorem TrailAt.ext {w W:World}{g:Nat}{b:List UInt8}(h:TrailAt w g b)(hE:Ext w W)(hg:g<w.heap.size):TrailAt W g b:=fun p hp=>by rw[hE.cell hg];exact h p hp
theorem Lz.longer_call {w:World}{A:Option Addr}{n c:Nat}{b:List UInt8}(h:Bytes w w.heap.size A n b)(hn:n≤100000)(hnc:n≤c){p2 q d k:Nat}(hp:q-d=p2)(hd:d≤q)(hk:k<min 257 (n-q))(W:World)(hE:Ext w W) :
  Calls Tryz.prog 160 #[.slice A n c,.int .i64 (p2:Int),.int .i64 (q:Int),.int .i64 (k:Int)] W fun e w'=>e=.returned (.bool (decide (k<run b q d)))∧Ext W w':=by
 have hl:=h.1
 subst hl
 subst hp
 rw[← QL hd hk]
 exact UJ A _ c b (q-d) q k W hn hnc (by omega) (by omega) (hE.bytes h)
theorem Lz.same_call {w:World}{A:Option Addr}{n c:Nat}{b:List UInt8}(h:Bytes w w.heap.size A n b)(hn:n≤100000){p2 q d k most:Nat}(hp:q-d=p2)(hd:d≤q)(hq:q<n)(hm:most=min 257 (n-q))(hk:k<run b q d)(W:World)(hE:Ext w W) :
  Calls Tryz.prog 161 #[.slice A n c,.int .i64 (p2:Int),.int .i64 (q:Int),.int .i64 ((k:Int)+1),.int .i64 (most:Int)] W fun e w'=>e=.returned (.int .i64 (run b q d:Int))∧Ext W w':=by
 have hl:=h.1
 subst hl
 subst hp
 have hr:=Jt (b:=b) d hq
 have e:yz b q (q-(q-d)) (most-(k+1)) (k+1)=run b q d:=by
  rw[show q-(q-d)=d by omega,Ym hm _ _ (by omega),Ju (by omega) fun j hj=>vr (by omega)]
 have C:=Q2 A _ c b (q-d) q (k+1) most W hn (by omega) (by omega) (by omega) (hE.bytes h)
 rw[e]at C
 exact C
set_option maxHeartbeats 4000000 in
set_option maxRecDepth 100000 in
theorem X7 (A:Option Addr)(n c:Nat)(b:List UInt8)(g c2 q:Nat)(w:World)(hn:n≤100000)(hnc:n≤c)(hq:q<n)(h:Bytes w w.heap.size A n b)(hg:g<w.heap.size)(hT:TrailAt w g b) :
  Calls Tryz.prog 130 #[.slice A n c,.slice (some ⟨g,0,none⟩) n c2,.int .i64 (q:Int)] w fun e w'=>e=.returned (jA (xc b q))∧Ext w w':=by
 have hl:=h.1
 subst hl
 have HT:=hide (fun W (hE:Ext w W)=>hT.ext hE hg)
 obtain⟨most,hmost⟩:∃ m,m=min 257 (b.length-q):=⟨_,rfl⟩
 have HMost:=hide hmost
 have hMI:(if (b.length:Int)-(q:Int)<257 then (b.length:Int)-(q:Int) else 257)=(most:Int):=by split<;>omega
 rcases h.2 with h0 | ⟨b1,o1,rfl,hb1,hc⟩
 ·omega
 have hcq:=(((zb w (.cells #[.int .u8 0,.int .i64 0,.int .i64 0] 157)).bytes h).2).resolve_left (by omega)
 have HB:=hide h
 have hqI:(q:Int)<(b.length:Int):=by omega
 have hc0:=hc q hq
 have hc1:(w.alloc (.cells #[.int .u8 0,.int .i64 0,.int .i64 0] 157)).cell? ⟨b1,o1+q,none⟩=some (.int .u8 ((b.getD q 0).toNat:Int)):=by
  rw[(zb w _).cell hb1];exact hc0
 obtain⟨yq,hyq⟩:∃ y,y=(b.getD q 0).toNat:=⟨_,rfl⟩
 have hcy:yq<256:=by rw[hyq];exact UInt8.toNat_lt _
 rw[← hyq]at hc1
 have HTok:=hide (show acY (jz b q (best b q 0))=#[.int .u8 (yq:Int),.int .i64 0,.int .i64 0] by rw[hyq];rfl)
 have hR1:=(Whole.new w 157 #[.int .u8 0,.int .i64 0,.int .i64 0]).alloc (.cells #[.int .u8 (yq:Int),.int .i64 0,.int .i64 0] 157)
 have hT1:=Whole.new (w.alloc (.cells #[.int .u8 0,.int .i64 0,.int .i64 0] 157)) 157 #[.int .u8 (yq:Int),.int .i64 0,.int .i64 0]
 rw[show (w.alloc (.cells #[.int .u8 0,.int .i64 0,.int .i64 0] 157)).heap.size=w.heap.size+1 by simp]at hT1
 have hE1:=(zb w (.cells #[.int .u8 0,.int .i64 0,.int .i64 0] 157)).trans (zb _ (.cells #[.int .u8 (yq:Int),.int .i64 0,.int .i64 0] 157))
 have HR1:=hide hR1
 have HT1:=hide hT1
 have HE1:=hide hE1
 clear hR1 hT1 hE1 hcq hc0 hc h hT hyq hmost
 go_enter Tryz.func130,Tryz.ntmps130
 go_wp2_with (refine vq rfl (.const (.int .i64 257)) (.tmp 14) rfl rfl rfl hMI ?_)
 go_loopw [9,10] (fun x y wr=>∃ m:Nat,m≤min 4095 q∧x=.int .i64 (xd (best b q m):Int)∧y=.int .i64 ((q-m:Nat):Int)∧three b (q-m)=three b q∧Whole wr w.heap.size 157 #[.int .u8 0,.int .i64 0,.int .i64 0]∧Whole wr (w.heap.size+1) 157 (acY (jz b q (best b q m)))∧Ext w wr) (fun _ y _=>(intOf y).toNat)
 case atStart=>exact⟨0,by omega,rfl,by rw[Nat.sub_zero],by rw[Nat.sub_zero],HR1.out,by rw[HTok.out];exact HT1.out,HE1.out⟩
 case round =>
  clear HR1 HT1 HE1 HTok hc1 hcy
  obtain⟨m,hm,rfl,rfl,h3,hR,hT,hE⟩:=hrel
  have hbk:=HT.out wr hE (q-m) (by omega)
  have hbl:=adC b (q-m)
  have hpn:q-m<b.length:=by omega
  have hlg:=(Uq (best b q m)).1
  have HEz:=hide (acB h3 hm)
  have HEm:=hide (acC hq hm)
  have HEf:=hide (adD h3 hm)
  have HLess:=hide (abi h3 (by omega))
  have HMore:=hide (show 0<zp b (q-m)→xd (best b q m)<run b q (m+zp b (q-m))→xd (best b q (m+zp b (q-m)))=run b q (m+zp b (q-m))∧jz b q (best b q (m+zp b (q-m)))=⟨0,(run b q (m+zp b (q-m)):Int),((m+zp b (q-m):Nat):Int)⟩ from fun h1 h2=>by
   have hl2:=(Uq (best b q m)).1
   rw[abj h3 (by omega) h1 h2]
   unfold xd jz
   rw[if_pos (by dsimp only;omega),if_pos (by dsimp only;omega)]
   exact⟨rfl,rfl⟩)
  have HThree:=hide (QK h3)
  have HPos:=hide (show 0<zp b (q-m)→zp b (q-m)≤q-m from fun h=>(qD h).2.2.1)
  rw[← HMost.out]at HEm
  obtain⟨p,hp⟩:∃ p,p=q-m:=⟨_,rfl⟩
  have HP:=hide hp
  rw[← hp]at hbk hbl HEz HEf HLess HMore HThree HPos hpn ⊢
  generalize zp b p=gk at *
  generalize xd (best b q m)=lg at *
  generalize jz b q (best b q m)=t at *
  obtain⟨tl,tn,td⟩:=t
  have c0:=hT.at 0 rfl
  have c1:=hT.at 1 rfl
  have c2:=hT.at 2 rfl
  change wr.cell? ⟨w.heap.size+1,0,none⟩=some (.int .u8 (tl.toNat:Int)) at c0
  change wr.cell? ⟨w.heap.size+1,1,none⟩=some (.int .i64 tn) at c1
  change wr.cell? ⟨w.heap.size+1,2,none⟩=some (.int .i64 td) at c2
  have hone:=acZ ⟨tl,tn,td⟩
  unfold acY at hone
  dsimp only at hone
  have HWT:=hide hT
  clear hp hT h3
  by_cases h0:gk=0
  ·have hEnd:=hide (HEz.out h0)
   subst h0
   change wr.cell? ⟨g,p,none⟩=some (.int .u16 0) at hbk
   clear HEz HEm HEf HLess HMore HThree HPos HWT HP hbl
   go_wp2_with (refine zh rfl 157 (.tmp 6) (.tmp 60) rfl rfl rfl hR rfl vy hone ?_;intro w5 hW5 hG5 _)
   refine bodyPost_ret (results_cell_row rfl _ _ _ _ _ _ _ rfl hW5 Tryz.underlying157 rfl vy) rfl ?_
   exact⟨by rw[← hEnd.out];rfl,Below.grown hE hG5 hE.le (fun k hk=>by cases hk;omega)⟩
  ·have hg0:0<gk:=by omega
   have hgI:(0:Int)<(gk:Int):=by omega
   by_cases hlm:lg<most
   ·have hlmI:(lg:Int)<(most:Int):=by omega
    have hgp:=HPos.out hg0
    obtain⟨p2,hp2⟩:∃ p2,p2=p-gk:=⟨_,rfl⟩
    have hp2I:(p:Int)-(gk:Int)=(p2:Int):=by omega
    obtain⟨d,hd⟩:∃ d,d=m+gk:=⟨_,rfl⟩
    have hpm:=HP.out
    have hdI:(q:Int)-(p2:Int)=(d:Int):=by omega
    have hq2:q-d=p2:=by omega
    have hdq:d≤q:=by omega
    have hdm:m<d:=by omega
    have hp2p:p2<p:=by omega
    have CL:=hide (fun W hE=>longer_call (c:=c) HB.out hn hnc (k:=lg) hq2 hdq (by rw[← HMost.out];exact hlm) W hE)
    have CS:=hide (fun W hE hk=>same_call (c:=c) (k:=lg) HB.out hn hq2 hdq hq HMost.out hk W hE)
    rw[← hd]at HEf HLess HMore HThree
    rw[hq2]at HThree
    have HEf2:=hide (HEf.out hg0)
    have HLess2:=hide (HLess.out hg0)
    have HMore2:=hide (HMore.out hg0)
    have HThree2:=hide (HThree.out hg0)
    have HD:=hide hq2
    have HMon:=hide (show run b q d≤257 from jO)
    generalize run b q d=rn at *
    clear HEz HEm HEf HLess HMore HThree HPos hd hp2 hpm hq2 HP
    by_cases hfar:4095<d
    ·have hfarI:(4095:Int)<(d:Int):=by omega
     have hEnd:=hide (HEf2.out hfar)
     clear HEf2 HLess2 HMore2 HThree2 CL CS HWT HD
     go_wp2_with (refine zh rfl 157 (.tmp 6) (.tmp 60) rfl rfl rfl hR rfl vy hone ?_;intro w5 hW5 hG5 _)
     refine bodyPost_ret (results_cell_row rfl _ _ _ _ _ _ _ rfl hW5 Tryz.underlying157 rfl vy) rfl ?_
     exact⟨by rw[← hEnd.out];rfl,Below.grown hE hG5 hE.le (fun k hk=>by cases hk;omega)⟩
    ·have hfarI:¬ (4095:Int)<(d:Int):=by omega
     clear HEf2
     go_wp2_with fail
     refine (CL.out _ hE).mono ?_
     rintro e w2 ⟨rfl,hE2⟩
     have hF2:=hE.trans hE2
     have hR2:=hR.ext hE2
     have hT2:=HWT.out.ext hE2
     clear HWT hR hE hE2 c0 c1 c2 hbk CL
     by_cases hlr:lg<rn
     ·obtain⟨hm1,hm2⟩:=HMore2.out hlr
      have HM1:=hide hm1
      have HM2:=hide hm2
      have C2:=hide (CS.out w2 hF2 hlr)
      have hlrd:decide (lg<rn)=true:=decide_eq_true hlr
      rw[hlrd]
      clear HMore2 HLess2 hm1 hm2 CS hlrd
      have hone3:(#[Value.int .u8 0,.int .i64 (rn:Int),.int .i64 (d:Int)]:Array Value).all (·.oneCell')=true:=by simp[Value.oneCell']
      go_wp2_with fail
      refine C2.out.mono ?_
      rintro e w3 ⟨rfl,hE3⟩
      have hF3:=hF2.trans hE3
      have hR3:=hR2.ext hE3
      have hT3:=hT2.ext hE3
      clear C2 hE3 hF2 hR2 hT2 w2
      go_wp2_with (refine zh rfl 157 (.tmp 8) (.tmp 59) rfl rfl rfl hT3 rfl vy hone3 ?_;intro w5 hW5 hG5 _)
      have hF5:Ext w w5:=Below.grown hF3 hG5 hF3.le (fun k hk=>by cases hk;omega)
      have hR5:=hR3.grown hG5 (by omega)
      clear hG5 hF3 hR3 hT3
      simp only[Act.put]
      go_roundw
      case rel=>exact⟨d,by omega,by rw[HM1.out],by rw[HD.out],by rw[HD.out];exact HThree2.out,hR5,by rw[HM2.out];exact hW5,hF5⟩
      case measure=>simp[intOf];omega
     ·obtain⟨hm1,hm2⟩:=HLess2.out (by omega)
      have HM1:=hide hm1
      have HM2:=hide hm2
      have hlrd:decide (lg<rn)=false:=decide_eq_false hlr
      rw[hlrd]
      clear HMore2 HLess2 hm1 hm2 CS hlrd
      go_wp2_with fail
      go_roundw
      case rel=>exact⟨d,by omega,by rw[HM1.out],by rw[HD.out],by rw[HD.out];exact HThree2.out,hR2,by rw[HM2.out];exact hT2,hF2⟩
      case measure=>simp[intOf];omega
   ·have hlmI:¬ (lg:Int)<(most:Int):=by omega
    have hEnd:=hide (HEm.out (by omega))
    clear HEz HEm HEf HLess HMore HThree HPos HWT HP hbl
    go_wp2_with (refine zh rfl 157 (.tmp 6) (.tmp 60) rfl rfl rfl hR rfl vy hone ?_;intro w5 hW5 hG5 _)
    refine bodyPost_ret (results_cell_row rfl _ _ _ _ _ _ _ rfl hW5 Tryz.underlying157 rfl vy) rfl ?_
    exact⟨by rw[← hEnd.out];rfl,Below.grown hE hG5 hE.le (fun k hk=>by cases hk;omega)⟩
end
section
open Go.RowKit Rcs
attribute [local go_sem ↓] yn z7 z8
set_option maxHeartbeats 2000000 in
set_option maxRecDepth 100000 in
theorem X8 (A:Option Addr)(n c:Nat)(l:List Rc)(w:World)(h:RcsAt w w.heap.size A n l)(hw:weightE l≤1099511627776):Calls Tryz.prog 46 #[.slice A n c] w fun e w'=>e=.returned (.int .i64 (weightE l:Int))∧Ext w w':=by
 have hl:=h.1
 have HW:=hide (fun (i:Nat) (hi:i<n)=>vA (l:=l) (i:=i) (by omega))
 have HW0:=hide (show weightE (l.take 0)=0 by simp[weightE])
 have HWn:=hide (show weightE (l.take n)=weightE l by rw[List.take_of_length_le (by omega)])
 have HLe:=hide (fun i=>Nat.le_trans (weight_take l i) hw)
 have HA:=hide h
 have hn:n≤68719476736:=by have:=weight_len l;omega
 generalize weightE l=res at *
 clear h hl hw
 go_enter Tryz.func46,Tryz.ntmps46
 go_wp2
 go_loopw [8,3] (fun x y wr=>∃ i sum:Nat,i≤n∧x=.int .i64 (i:Int)∧y=.int .i64 (sum:Int)∧sum=weightE (l.take i)∧Ext w wr) (fun x _ _=>n-(intOf x).toNat)
 case atStart=>exact⟨0,0,by omega,rfl,rfl,HW0.out.symm,Ext.refl _⟩
 case round =>
  obtain⟨i,sum,hi,rfl,rfl,hs,hE⟩:=hrel
  have HE:=hide hE
  by_cases hlt:i<n
  ·have hiI:(i:Int)<(n:Int):=by omega
   rcases (HA.out.later hE).2.1 with hn0 | ⟨b1,o1,rfl,_,hc1⟩
   ·omega
   obtain⟨e0,e1,e2,e3⟩:=hc1 i hlt
   have hs1:=HLe.out (i+1)
   rw[HW.out i hlt,← hs]at hs1
   have HSn:=hide (HW.out i hlt)
   rw[← hs]at HSn
   obtain⟨r,hr⟩:∃ r,r=l.getD i default:=⟨_,rfl⟩
   rw[← hr]at e0 e1 e2 e3 hs1 HSn
   have hET:=zb wr (.cells #[.int .u64 (r.time:Int),.int .u8 (r.lv.toNat:Int),.string ⟨r.src.toArray⟩,.string ⟨r.text.toArray⟩] 39)
   have hWT:=Whole.new wr 39 #[.int .u64 (r.time:Int),.int .u8 (r.lv.toNat:Int),.string ⟨r.src.toArray⟩,.string ⟨r.text.toArray⟩]
   have f0:=hWT.cell 2
   have f1:=hWT.cell 3
   clear hc1 hr hs hE
   go_wp2
   go_roundw
   case rel=>exact⟨i+1,sum+16+r.src.length+r.text.length,by omega,by go_num,by congr 1;omega,HSn.out.symm,HE.out.trans hET⟩
   case measure=>simp[intOf];omega
  ·have hiI:¬ (i:Int)<(n:Int):=by omega
   obtain rfl:i=n:=by omega
   have HS:=hide hs
   rw[HWn.out]at HS
   clear hlt hs
   go_wp2
   go_ret
   exact⟨by rw[HS.out];rfl,hE⟩
set_option maxHeartbeats 2000000 in
set_option maxRecDepth 100000 in
theorem JS (r:Rc)(w:World):Calls Tryz.prog 45 #[rcV r] w fun e w'=>e=.returned (.bool (decide (4000<r.src.length∨4000<r.text.length)))∧Ext w w':=by
 have hET:=zb w (.cells #[.int .u64 (r.time:Int),.int .u8 (r.lv.toNat:Int),.string ⟨r.src.toArray⟩,.string ⟨r.text.toArray⟩] 39)
 have hWT:=Whole.new w 39 #[.int .u64 (r.time:Int),.int .u8 (r.lv.toNat:Int),.string ⟨r.src.toArray⟩,.string ⟨r.text.toArray⟩]
 have f0:=hWT.cell 2
 have f1:=hWT.cell 3
 unfold rcV
 by_cases h1:4000<r.src.length
 ·have h1I:(4000:Int)<(r.src.length:Int):=by omega
  rw[decide_eq_true (.inl h1)]
  clear h1
  go_enter Tryz.func45,Tryz.ntmps45
  go_wp2
  go_ret
  exact⟨rfl,hET⟩
 ·have h1I:¬ (4000:Int)<(r.src.length:Int):=by omega
  by_cases h2:4000<r.text.length
  ·have h2I:(4000:Int)<(r.text.length:Int):=by omega
   rw[decide_eq_true (.inr h2)]
   clear h1 h2
   go_enter Tryz.func45,Tryz.ntmps45
   go_wp2
   go_ret
   exact⟨rfl,hET⟩
  ·have h2I:¬ (4000:Int)<(r.text.length:Int):=by omega
   rw[decide_eq_false (by omega)]
   clear h1 h2
   go_enter Tryz.func45,Tryz.ntmps45
   go_wp2
   go_ret
   exact⟨rfl,hET⟩
def Rcs.idxE (p:Rc→Bool)(l:List Rc):Int:=if l.findIdx p<l.length then (l.findIdx p:Int) else -1
theorem Rcs.idx_at {p:Rc→Bool}{l:List Rc}{i:Nat}(hi:i<l.length)(h:∀ j,j<i→p (l.getD j default)=false)(hp:p (l.getD i default)=true):idxE p l=(i:Int):=by
 have e:l.findIdx p=i:=by
  rw[List.findIdx_eq hi]
  rw[List.getD_eq_getElem?_getD,List.getElem?_eq_getElem hi]at hp
  refine⟨hp,fun j hj=>?_⟩
  have:=h j hj
  rw[List.getD_eq_getElem?_getD,List.getElem?_eq_getElem (by omega)]at this
  simpa using this
 unfold idxE
 rw[e,if_pos hi]
theorem Rcs.idx_none {p:Rc→Bool}{l:List Rc}(h:∀ j,j<l.length→p (l.getD j default)=false):idxE p l=-1:=by
 have e:l.findIdx p=l.length:=by
  rw[List.findIdx_eq_length]
  intro x hx
  obtain⟨j,hj,rfl⟩:=List.getElem_of_mem hx
  have:=h j hj
  rw[List.getD_eq_getElem?_getD,List.getElem?_eq_getElem hj]at this
  simpa using this
 unfold idxE
 rw[e,if_neg (by omega)]
set_option maxHeartbeats 2000000 in
set_option maxRecDepth 100000 in
theorem Z4 {K:Nat}(hK:Entered K){cap:Array Value}{p:Rc→Bool}(A:Option Addr)(n c:Nat)(l:List Rc)(w:World)(h:RcsAt w w.heap.size A n l)(hn:n≤maxLen)(hp:∀ i W,i<n→Ext w W→Calls Tryz.prog K (#[rcV (l.getD i default)]++cap) W fun e W'=>e=.returned (.bool (p (l.getD i default)))∧Ext W W') :
  Calls Tryz.prog 70 #[.slice A n c,.func (.func K) #[] cap] w fun e w'=>e=.returned (.int .i64 (idxE p l))∧Ext w w':=by
 have hEn:=fun args W=>hK args W
 have hl:=h.1
 have HAt:=hide (fun (i:Nat) (hi:i<n)=>idx_at (p:=p) (l:=l) (i:=i) (by omega))
 have HNo:=hide (fun hx=>idx_none (p:=p) (l:=l) hx)
 rw[hl]at HNo
 have HP:=hide hp
 have HA:=hide h
 unfold maxLen at hn
 generalize idxE p l=res at *
 clear h hl hp
 go_enter Tryz.func70,Tryz.ntmps70
 go_wp2
 go_loopw [8] (fun x wr=>∃ i:Nat,i≤n∧x=.int .i64 (i:Int)∧(∀ j,j<i→p (l.getD j default)=false)∧Ext w wr) (fun x _=>n-(intOf x).toNat)
 case atStart=>exact⟨0,by omega,rfl,fun j hj=>absurd hj (by omega),Ext.refl _⟩
 case round =>
  obtain⟨i,hi,rfl,hall,hE⟩:=hrel
  have HE:=hide hE
  have HAll:=hide hall
  clear hall
  by_cases hlt:i<n
  ·have hiI:(i:Int)<(n:Int):=by omega
   rcases (HA.out.later hE).2.1 with hn0 | ⟨b1,o1,rfl,_,hc1⟩
   ·omega
   obtain⟨e0,e1,e2,e3⟩:=hc1 i hlt
   have C:=HP.out i wr hlt hE
   have HAi:=hide (HAt.out i hlt HAll.out)
   have HNx:=hide (show p (l.getD i default)=false→∀ j,j<i+1→p (l.getD j default)=false from fun h1 j hj=>by
    by_cases e:j=i
    ·rw[e];exact h1
    ·exact HAll.out j (by omega))
   obtain⟨r,hr⟩:∃ r,r=l.getD i default:=⟨_,rfl⟩
   rw[← hr]at e0 e1 e2 e3 C HAi HNx
   obtain⟨b,hb⟩:∃ b,b=p r:=⟨_,rfl⟩
   rw[← hb]at C HAi HNx
   unfold rcV at C
   clear hc1 hr hE hb
   cases b with
   | true =>
    go_wp2_with fail
    refine C.mono ?_
    rintro e w1 ⟨rfl,hE1⟩
    go_wp2
    go_ret
    rw[HAi.out trivial]
    exact⟨rfl,HE.out.trans hE1⟩
   | false =>
    go_wp2_with fail
    refine C.mono ?_
    rintro e w1 ⟨rfl,hE1⟩
    go_wp2
    go_roundw
    case rel=>exact⟨i+1,by omega,by go_num,HNx.out trivial,HE.out.trans hE1⟩
    case measure=>simp[intOf];omega
  ·have hiI:¬ (i:Int)<(n:Int):=by omega
   obtain rfl:i=n:=by omega
   have HR:=hide (HNo.out HAll.out)
   clear hlt
   go_wp2
   go_ret
   rw[HR.out]
   exact⟨rfl,hE⟩
set_option maxHeartbeats 2000000 in
set_option maxRecDepth 100000 in
theorem Xp {K:Nat}(hK:Entered K){cap:Array Value}{p:Rc→Bool}(A:Option Addr)(n c:Nat)(l:List Rc)(w:World)(h:RcsAt w w.heap.size A n l)(hn:n≤maxLen)(hp:∀ i W,i<n→Ext w W→Calls Tryz.prog K (#[rcV (l.getD i default)]++cap) W fun e W'=>e=.returned (.bool (p (l.getD i default)))∧Ext W W') :
  Calls Tryz.prog 44 #[.slice A n c,.func (.func K) #[] cap] w fun e w'=>e=.returned (.bool (l.any p))∧Ext w w':=by
 have C:=Z4 hK A n c l w h hn hp
 have HR:=hide (show l.any p=decide (0≤idxE p l) from by
  unfold idxE
  by_cases hx:l.findIdx p<l.length
  ·rw[if_pos hx,decide_eq_true (by omega)]
   exact List.any_eq_true.2 ⟨_,List.getElem_mem hx,List.findIdx_getElem (w:=hx)⟩
  ·rw[if_neg hx,decide_eq_false (by omega),List.any_eq_false]
   rw[Nat.not_lt]at hx
   have:=List.findIdx_eq_length.1 (Nat.le_antisymm List.findIdx_le_length hx)
   simpa using this)
 generalize idxE p l=k at *
 clear h hp
 go_enter Tryz.func44,Tryz.ntmps44
 go_wp2_with fail
 refine C.mono ?_
 rintro e w1 ⟨rfl,hE1⟩
 go_wp2
 go_ret
 rw[HR.out]
 exact⟨rfl,hE1⟩
theorem Xq:Entered 45:=jT Tryz.func45 (by kernel_rfl) rfl
set_option maxHeartbeats 2000000 in
set_option maxRecDepth 100000 in
theorem UK (A:Option Addr)(n c:Nat)(l:List Rc)(w:World)(hn:n≤maxLen)(h:RcsAt w w.heap.size A n l):Calls Tryz.prog 26 #[.slice A n c] w fun e w'=>e=.returned (.int .i64 (checkE l))∧Ext w w':=by
 have hl:=h.1
 by_cases hbig:20000<n
 ·have hbI:(20000:Int)<(n:Int):=by omega
  have hc:checkE l=6:=by unfold checkE;rw[if_neg (by omega)]
  rw[hc]
  clear hc hl hbig h
  go_enter Tryz.func26,Tryz.ntmps26
  go_wp2
  go_ret
  exact⟨rfl,Ext.refl _⟩
 have hbI:¬ (20000:Int)<(n:Int):=by omega
 have C1:=Xp (p:=fun r=>decide (4000<r.src.length∨4000<r.text.length)) (cap:=#[]) Xq A n c l w h hn (fun i W _ _=>JS _ W)
 obtain⟨b,hb⟩:∃ b,b=l.any (fun r=>decide (4000<r.src.length∨4000<r.text.length)):=⟨_,rfl⟩
 rw[← hb]at C1
 cases b with
 | true =>
  have hc:checkE l=6:=by
   obtain⟨r,h1,h2⟩:=List.any_eq_true.1 hb.symm
   have h2:=of_decide_eq_true h2
   unfold checkE
   rw[if_neg]
   rintro⟨_,h3,_⟩
   have:=h3 r h1
   omega
  rw[hc]
  clear hc hl hb hbig h
  go_enter Tryz.func26,Tryz.ntmps26
  go_wp2_with fail
  refine C1.mono ?_
  rintro e w1 ⟨rfl,hE1⟩
  go_wp2
  go_ret
  exact⟨rfl,hE1⟩
 | false =>
  have hall:∀ r∈l,r.src.length≤4000∧r.text.length≤4000:=fun r hr=>by
   have:=List.any_eq_false.1 hb.symm r hr
   have:¬ (4000<r.src.length∨4000<r.text.length):=by simpa using this
   omega
  have hwt:∀ m:List Rc,(∀ r∈m,r.src.length≤4000∧r.text.length≤4000)→weightE m≤8016*m.length:=by
   intro m hm
   induction m with
   | nil=>simp[weightE]
   | cons a t ih =>
    have h1:=ih (fun r hr=>hm r (by simp[hr]))
    have h2:=hm a (by simp)
    unfold weightE at h1 ⊢
    rw[List.map_cons,List.sum_cons,List.length_cons]
    omega
  have hw:=hwt l hall
  have HC:=hide (show checkE l=if 1048576<weightE l then 6 else 0 from by
   unfold checkE
   by_cases hx:1048576<weightE l
   ·rw[if_pos hx,if_neg (by omega)]
   ·rw[if_neg hx,if_pos ⟨by omega,hall,by omega⟩])
  have C2:=fun W (hE:Ext w W)=>X8 A n c l W (h.later hE) (by omega)
  rw[HC.out]
  clear HC hall hwt hw hb hbig h hl
  generalize weightE l=wl at *
  by_cases hx:1048576<wl
  ·have hxI:(1048576:Int)<(wl:Int):=by omega
   rw[if_pos hx]
   clear hx
   go_enter Tryz.func26,Tryz.ntmps26
   go_wp2_with fail
   refine C1.mono ?_
   rintro e w1 ⟨rfl,hE1⟩
   have C3:=C2 w1 hE1
   go_wp2_with fail
   refine C3.mono ?_
   rintro e w2 ⟨rfl,hE2⟩
   go_wp2
   go_ret
   exact⟨rfl,hE1.trans hE2⟩
  ·have hxI:¬ (1048576:Int)<(wl:Int):=by omega
   rw[if_neg hx]
   clear hx
   go_enter Tryz.func26,Tryz.ntmps26
   go_wp2_with fail
   refine C1.mono ?_
   rintro e w1 ⟨rfl,hE1⟩
   have C3:=C2 w1 hE1
   go_wp2_with fail
   refine C3.mono ?_
   rintro e w2 ⟨rfl,hE2⟩
   go_wp2
   go_ret
   exact⟨rfl,hE1.trans hE2⟩
end
section
open Go.RowKit Rcs Num
set_option maxHeartbeats 4000000 in
set_option maxRecDepth 100000 in
theorem Xr (A:Option Addr)(n c:Nat)(l:List Rc)(w:World)(h:RcsAt w w.heap.size A n l)(hn:n≤20000):Calls Tryz.prog 79 #[.slice A n c] w (zt w (yf 0 l)):=by
 have hl:=h.1
 have HOk:=hide (fun (i:Nat) (hi:i<n)=>(h.okAt hi).1)
 have HTs:=hide (fun (i was:Nat) (hi:i<n)=>times_step (l:=l) (i:=i) (was:=was) (by omega))
 have HTe:=hide (show ∀ was,yf was (l.drop n)=[] from fun was=>by rw[List.drop_eq_nil_of_le (by omega)];rfl)
 have HT0:=hide (show yf 0 l=[]++yf 0 (l.drop 0) from rfl)
 have HTl:=hide (show (yf 0 l).length≤200000 by have:=times_len l 0;omega)
 have HA:=hide h
 unfold zt
 obtain⟨T,hT⟩:∃ T,T=yf 0 l:=⟨_,rfl⟩
 rw[← hT]at HT0 HTl ⊢
 clear h hl hT
 go_enter Tryz.func79,Tryz.ntmps79
 go_wp2
 go_loopw [9,3,4] (fun x v y wr=>∃ (i was:Nat) (X:List UInt8),i≤n∧x=.int .i64 (i:Int)∧y=.int .u64 (was:Int)∧was<2 ^ 64∧OwnB wr w.heap.size v X∧T=X++yf was (l.drop i)∧Ext w wr) (fun x _ _ _=>n-(intOf x).toNat)
 case atStart=>exact⟨0,0,[],by omega,rfl,rfl,by decide,OwnB.nil _ _,HT0.out,Ext.refl _⟩
 case round =>
  clear HT0
  obtain⟨i,was,X,hi,rfl,rfl,hwas,hO,hT,hE⟩:=hrel
  have HE:=hide hE
  by_cases hlt:i<n
  ·have hiI:(i:Int)<(n:Int):=by omega
   rcases (HA.out.later hE).2.1 with hn0 | ⟨b1,o1,rfl,_,hc1⟩
   ·omega
   obtain⟨e0,e1,e2,e3⟩:=hc1 i hlt
   rw[HTs.out i was hlt]at hT
   have ht64:=HOk.out i hlt
   obtain⟨r,hr⟩:∃ r,r=l.getD i default:=⟨_,rfl⟩
   rw[← hr]at e0 e1 e2 e3 hT ht64
   have HTi:=hide hT
   have hXl:X.length≤200000:=by have h1:=HTl.out;rw[hT,List.length_append]at h1;omega
   have hsw:=Xo ht64 hwas
   have hs64:=aca r.time was
   have CZ:=fun W=>QG (uF r.time was) W (by omega)
   have CN:=fun W=>zS (zig (uF r.time was)) W (by have:=ab7 hs64;omega)
   obtain⟨d,hd⟩:∃ d,d=uF r.time was:=⟨_,rfl⟩
   rw[← hd]at hsw CZ CN HTi
   obtain⟨Z,hZ⟩:∃ Z,Z=enc (zig d):=⟨_,rfl⟩
   have hZl:Z.length≤10:=by rw[hZ];exact enc_len _
   rw[← hZ]at CN HTi
   obtain⟨w1,hw1⟩:∃ w1,w1=wr.alloc (.cells #[.int .u64 (r.time:Int),.int .u8 (r.lv.toNat:Int),.string ⟨r.src.toArray⟩,.string ⟨r.text.toArray⟩] 39):=⟨_,rfl⟩
   have hE1:Ext wr w1:=by rw[hw1];exact zb wr _
   have hW1:Whole w1 wr.heap.size 39 #[.int .u64 (r.time:Int),.int .u8 (r.lv.toNat:Int),.string ⟨r.src.toArray⟩,.string ⟨r.text.toArray⟩]:=by rw[hw1];exact Whole.new wr _ _
   have HB1:=hide (show Beside w1 wr.heap.size 39 #[.int .u64 (r.time:Int),.int .u8 (r.lv.toNat:Int),.string ⟨r.src.toArray⟩,.string ⟨r.text.toArray⟩] u3 from ⟨hW1,fun e=>by have:=(hO.lt _ e).2;omega⟩)
   have HE1:=hide (HE.out.trans hE1)
   have HO1:=hide (hO.ext hE1)
   have d10:=HB1.out.1.at 0 (u:=.int .u64 (r.time:Int)) rfl
   generalize zig d=zz at *
   clear hc1 hr hT hd hZ hO hE hwas hE1 hW1
   go_wp2_with fail
   rw[← hw1]
   clear hw1
   refine (CZ _).mono ?_
   rintro e w' ⟨rfl,rfl⟩
   go_wp2_with fail
   refine (CN _).mono ?_
   rintro e w4 ⟨v4,rfl,hO4,hE4⟩
   obtain⟨A4,c4,hv4,-,-,q4⟩:=hO4.form
   obtain⟨m4,hm4⟩:∃ m,m=Z.length:=⟨_,rfl⟩
   rw[← hm4]at hv4 q4
   have HM4:=hide hm4
   have HQ4:=hide q4
   have HE4:=hide (HE1.out.trans hE4)
   have HO4:=hide (HO1.out.ext hE4)
   have HB4:=hide (HB1.out.ext hE4)
   subst hv4
   clear hO4 q4 hm4 hE4 CZ CN e0 e1 e2 e3 d10 hs64 hsw
   go_wp2_with (at_builtin;refine ze rfl (.tmp 13) (.tmp 19) rfl rfl HO4.out rfl HQ4.out (by have:=HM4.out;omega) HE4.out.le ?_;intro v5 w5 hO5 hG5 hN5;have HO5:=hide hO5;have HE5:=hide (show Ext w w5 from Below.grown HE4.out hG5 HE4.out.le (fun k hk=>(HO4.out.lt k hk).1));have d50:=(HB4.out.grown hG5 hN5).1.at 0 (u:=.int .u64 (r.time:Int)) rfl;clear hO5 hG5 hN5)
   go_roundw
   case rel=>exact⟨i+1,r.time,X++Z,by omega,by go_num,rfl,ht64,HO5.out,by rw[HTi.out,List.append_assoc],HE5.out⟩
   case measure=>simp[intOf];omega
  ·have hiI:¬ (i:Int)<(n:Int):=by omega
   have hin:i=n:=by omega
   rw[hin,HTe.out,List.append_nil]at hT
   subst hT
   clear hlt hin
   go_wp2
   go_ret
   exact⟨_,rfl,hO,hE⟩
theorem Rcs.idx_row (x:UInt8):∀ l:List Rc,l.findIdx (fun r=>r.lv != x)=yt x l
 | []=>rfl
 | r::t=>by
  rw[List.findIdx_cons,yt,idx_row x t]
  by_cases h:r.lv=x
  ·simp[h]
  ·have:(r.lv != x)=true:=by simpa using h
   rw[this,if_neg h]
   rfl
theorem Rcs.levels_apart {x:UInt8}{u:List Rc}(h:∀ r,u.head?=some r→r.lv≠x):zu (some x) u=zu none u:=by
 cases u with
 | nil=>rfl
 | cons r t =>
  have:=h r rfl
  rw[zu,zu,if_neg (by intro e;injection e with e;exact this e.symm),if_neg (by simp)]
theorem Rcs.levels_row {l:List Rc}(h:0<l.length):0<yt (l.getD 0 default).lv l∧zu none l=((l.getD 0 default).lv::enc (yt (l.getD 0 default).lv l))++zu none (l.drop (yt (l.getD 0 default).lv l)):=by
 cases l with
 | nil=>simp at h
 | cons r t =>
  obtain⟨g1,_,g3⟩:=Yy r.lv t
  have e:(r::t).getD 0 default=r:=rfl
  rw[e,yt,if_pos rfl,List.drop_succ_cons,zu,if_neg (by simp),g1,levels_apart g3]
  exact⟨by omega,rfl⟩
attribute [local go_sem ↓] yn z7 z8
theorem Xs:Entered 145:=jT Tryz.func145 (by kernel_rfl) rfl
set_option maxHeartbeats 2000000 in
set_option maxRecDepth 100000 in
theorem JT (r:Rc)(B:Nat)(A:Option Addr)(n c:Nat)(l:List Rc)(w:World)(h:RcsAt w w.heap.size A n l)(h0:0<n)(hB:w.cell? ⟨B,0,none⟩=some (.slice A n c)):Calls Tryz.prog 145 #[rcV r,.pointer (some ⟨B,0,none⟩)] w fun e w'=>e=.returned (.bool (r.lv != (l.getD 0 default).lv))∧Ext w w':=by
 have hET:=zb w (.cells #[.int .u64 (r.time:Int),.int .u8 (r.lv.toNat:Int),.string ⟨r.src.toArray⟩,.string ⟨r.text.toArray⟩] 39)
 have hWT:=Whole.new w 39 #[.int .u64 (r.time:Int),.int .u8 (r.lv.toNat:Int),.string ⟨r.src.toArray⟩,.string ⟨r.text.toArray⟩]
 have f0:=hWT.at 1 (u:=.int .u8 (r.lv.toNat:Int)) rfl
 have hBl:B<w.heap.size:=World.block_lt_of_cell? w ⟨B,0,none⟩ hB
 have hB1:=(hET.cell (i:=0) hBl).trans hB
 rcases (h.later hET).2.1 with hn0 | ⟨b1,o1,rfl,_,hc1⟩
 ·omega
 obtain⟨-,e1,-,-⟩:=hc1 0 h0
 rw[Nat.zero_mul,Nat.add_zero]at e1
 obtain⟨x,hx⟩:∃ x,x=(l.getD 0 default).lv:=⟨_,rfl⟩
 rw[← hx]at e1 ⊢
 have h0I:(0:Int)<(n:Int):=by omega
 have HRes:=hide (show ((r.lv.toNat:Int) != (x.toNat:Int))=(r.lv != x) by
  by_cases hh:r.lv=x
  ·rw[hh];simp
  ·have h1:(r.lv != x)=true:=by simpa using hh
   have h2:(r.lv.toNat:Int)≠(x.toNat:Int):=fun e=>hh (UInt8.toNat_inj.1 (by omega))
   rw[h1]
   simpa using h2)
 unfold rcV
 clear h hc1 hx hB
 go_enter Tryz.func145,Tryz.ntmps145
 go_wp2_with fail
 go_quiet (fail)
 go_wp2
 go_ret
 exact⟨zf HRes.out,hET.drewN _⟩
set_option maxHeartbeats 2000000 in
set_option maxRecDepth 100000 in
theorem Q3 (A:Option Addr)(n c:Nat)(l:List Rc)(w:World)(h:RcsAt w w.heap.size A n l)(h0:0<n)(hn:n≤maxLen):Calls Tryz.prog 112 #[.slice A n c] w fun e w'=>e=.returned (.int .i64 (yt (l.getD 0 default).lv l:Int))∧Ext w w':=by
 have hl:=h.1
 have hE1:=zb w (.cells #[.slice A n c] 24)
 have hc0:=zA w #[.slice A n c] 24 (0,0) 0
 have HC:=hide (fun W (hE:Ext (w.alloc (.cells #[.slice A n c] 24)) W)=>(show W.cell? ⟨w.heap.size,0,none⟩=some (.slice A n c) from (hE.cell (by simp)).trans hc0))
 have C:=Z4 (p:=fun r=>r.lv != (l.getD 0 default).lv) (cap:=#[.pointer (some ⟨w.heap.size,0,none⟩)]) Xs A n c l _ (h.later hE1) hn (fun i W _ hE=>JT _ w.heap.size A n c l W (h.later (hE1.trans hE)) h0 (HC.out W hE))
 unfold idxE at C
 rw[idx_row,hl]at C
 have hrun:=jO (l.getD 0 default).lv l
 rw[hl]at hrun
 generalize yt (l.getD 0 default).lv l=k at *
 have HE1:=hide hE1
 clear h hl hc0 hE1
 by_cases hk:k<n
 ·rw[if_pos hk]at C
  have hkI:¬ (k:Int)<0:=by omega
  clear hk
  go_enter Tryz.func112,Tryz.ntmps112
  go_wp2_with fail
  refine C.mono ?_
  rintro e w1 ⟨rfl,hE⟩
  go_wp2
  go_ret
  exact⟨rfl,HE1.out.trans hE⟩
 ·rw[if_neg hk]at C
  obtain rfl:k=n:=by omega
  clear hk
  go_enter Tryz.func112,Tryz.ntmps112
  go_wp2_with fail
  refine C.mono ?_
  rintro e w1 ⟨rfl,hE⟩
  have hc1:=HC.out w1 hE
  go_wp2
  go_ret
  exact⟨rfl,HE1.out.trans hE⟩
def Q4 (a:Option Addr)(c k:Nat):Option Addr:=if c=k then a else a.map (·.add (k*4))
theorem Xt (W:World)(a:Option Addr)(n c:Nat)(k:IntKind)(l:Int)(h0:0≤l)(h1:l≤n) :
  (Instr.slice 24 (.slice a n c) (some (.int k l)) none none).run Tryz.prog W=.ok (.slice (Q4 a c l.toNat) (n-l.toNat) (c-l.toNat)) W:=by
 rw[run_slice_l (P:=Tryz.prog) (w:=W) 24 a n c (by kernel_rfl) k l h0 h1]
 have hs:(sizeOf (Tryz.prog.elem 24)).run Tryz.prog W=.ok 4 W:=by kernel_rfl
 rw[hs]
 simp[Result.andThen,sliced,Q4]
attribute [local go_sem ↓] Xt
def Z5:Value→Nat
 | .slice _ n _=>n
 | _=>0
set_option maxHeartbeats 4000000 in
set_option maxRecDepth 100000 in
theorem Yg (A:Option Addr)(n c:Nat)(l:List Rc)(w:World)(hnc:n≤c)(h:RcsAt w w.heap.size A n l)(hn:n≤20000):Calls Tryz.prog 80 #[.slice A n c] w (zt w (zu none l)):=by
 have HLl:=hide (show (zu none l).length≤220000 by have:=levels_len l none;have:=h.1;omega)
 have HA:=hide h
 unfold zt
 obtain⟨V,hV⟩:∃ V,V=zu none l:=⟨_,rfl⟩
 have HL0:=hide (show V=[]++zu none l by rw[hV];rfl)
 rw[← hV]at HLl ⊢
 clear h hV
 go_enter Tryz.func80,Tryz.ntmps80
 go_wp2
 go_loopw [0,3] (fun x v wr=>∃ (A':Option Addr) (n' c':Nat) (l':List Rc) (Y:List UInt8),n'≤n∧n'≤c'∧x=.slice A' n' c'∧RcsAt w w.heap.size A' n' l'∧OwnB wr w.heap.size v Y∧V=Y++zu none l'∧Ext w wr) (fun x _ _=>Z5 x)
 case atStart=>exact⟨A,n,c,l,[],by omega,hnc,rfl,HA.out,OwnB.nil _ _,HL0.out,Ext.refl _⟩
 case round =>
  clear HL0 HA
  obtain⟨A',n',c',l',Y,hn',hnc',rfl,hA,hO,hV,hE⟩:=hrel
  have HE:=hide hE
  by_cases hlt:0<n'
  ·have h0I:(0:Int)<(n':Int):=by omega
   obtain⟨b1,o1,rfl,hb1,hc1⟩:∃ b o,A'=some ⟨b,o,none⟩∧b<w.heap.size∧∀ i,i<n'→RcAt w b (o+i*4) (l'.getD i default):=by
    rcases hA.2.1 with hn0|hh
    ·omega
    ·exact hh
   have HCell:=hide (show ∀ W,Ext w W→W.cell? ⟨b1,o1+1,none⟩=some (.int .u8 ((l'.getD 0 default).lv.toNat:Int)) from fun W hW=>by
    have:=((hc1 0 hlt).below hW hb1).2.1
    rwa [Nat.zero_mul,Nat.add_zero]at this)
   have C:=Q3 _ n' c' l' wr (hA.later hE) hlt (by unfold maxLen;omega)
   obtain⟨r1,r2⟩:=levels_row (l:=l') (by rw[hA.1];exact hlt)
   rw[r2]at hV
   have hk2:=jO (l'.getD 0 default).lv l'
   rw[hA.1]at hk2
   have HCut:=hide (fun (k:Nat) (hk:k≤n')=>hA.cut (k:=k) hk hnc')
   obtain⟨x,hx⟩:∃ x,x=(l'.getD 0 default).lv:=⟨_,rfl⟩
   rw[← hx]at C r1 hV hk2 HCell
   obtain⟨k,hk⟩:∃ k,k=yt x l':=⟨_,rfl⟩
   rw[← hk]at C r1 hV hk2
   have HV:=hide hV
   have HYl:=hide (show Y.length≤220000 by have h1:=HLl.out;rw[hV,List.length_append]at h1;omega)
   have hkI:(k:Int)≤(n':Int):=by omega
   have HK:=hide (show k≤n'∧0<k from ⟨hk2,r1⟩)
   have hku:IntKind.u64.wrap (k:Int)=(k:Int):=by rw[IntKind.wrap_u64];omega
   have CN:=fun W=>zS k W (by omega)
   have HN10:=hide (enc_len k)
   have HO:=hide hO
   clear hc1 hb1 hA hV hx hk r1 r2 hE hO
   go_wp2_with fail
   refine C.mono ?_
   rintro e w2 ⟨rfl,hE2⟩
   have HE2:=hide (HE.out.trans hE2)
   have HO2:=hide (HO.out.ext hE2)
   have d0:=HCell.out w2 HE2.out
   clear C hE2
   go_wp2_with (at_builtin;refine ze rfl (.tmp 10) (.tmp 15) rfl rfl (HO2.out.ext (zb w2 _)) rfl (zr w2 [x] #[.int .u8 (x.toNat:Int)] 5 (0,0) rfl 1 rfl) (by have:=HYl.out;omega) (HE2.out.trans (zb w2 _)).le ?_;intro v3 w3 hO3 hG3 _;have HO3:=hide hO3;have HE3:=hide (show Ext w w3 from Below.grown (HE2.out.trans (zb w2 _)) hG3 (HE2.out.trans (zb w2 _)).le (fun k hk=>(HO2.out.lt k hk).1));clear hO3 hG3 d0)
   refine (CN w3).mono ?_
   rintro e w4 ⟨v4,rfl,hO4,hE4⟩
   obtain⟨A4,c4,hv4,-,-,q4⟩:=hO4.form
   obtain⟨m4,hm4⟩:∃ m,m=(enc k).length:=⟨_,rfl⟩
   rw[← hm4]at hv4 q4
   have HM4:=hide hm4
   have HQ4:=hide q4
   have HE4:=hide (HE3.out.trans hE4)
   have HO4:=hide (HO3.out.ext hE4)
   subst hv4
   clear hO4 q4 hm4 hE4 CN
   go_wp2_with (at_builtin;refine ze rfl (.tmp 17) (.tmp 20) rfl rfl HO4.out rfl HQ4.out (by have:=HYl.out;have:=HN10.out;have:=HM4.out;rw[List.length_append,List.length_singleton];omega) HE4.out.le ?_;intro v5 w5 hO5 hG5 _;have HO5:=hide hO5;have HE5:=hide (show Ext w w5 from Below.grown HE4.out hG5 HE4.out.le (fun k hk=>(HO4.out.lt k hk).1));clear hO5 hG5)
   go_roundw
   case rel=>exact⟨_,n'-k,c'-k,l'.drop k,Y++[x]++enc k,by omega,by omega,rfl,HCut.out k HK.out.1,HO5.out,by rw[HV.out];simp,HE5.out⟩
   case measure=>have:=HK.out;simp[Z5];omega
  ·have h0I:¬ (0:Int)<(n':Int):=by omega
   obtain rfl:l'=[]:=List.eq_nil_of_length_eq_zero (by rw[hA.1];omega)
   have HR:=hide (show V=Y by rw[hV,zu,List.append_nil])
   clear hlt hV
   go_wp2
   go_ret
   rw[HR.out]
   exact⟨_,rfl,hO,hE⟩
set_option maxHeartbeats 4000000 in
set_option maxRecDepth 100000 in
theorem Xu (A:Option Addr)(n c:Nat)(l:List Rc)(w:World)(hnc:n≤c)(h:RcsAt w w.heap.size A n l)(hn:n≤20000):Calls Tryz.prog 51 #[.slice A n c] w (zt w (columnsE l)):=by
 have C1:=Xr A n c l w h hn
 have C2:=hide (fun W (hE:Ext w W)=>Yg A n c l W hnc (h.later hE) hn)
 have HTl:=hide (show (yf 0 l).length≤200000 by have:=times_len l 0;have:=h.1;omega)
 have HLl:=hide (show (zu none l).length≤220000 by have:=levels_len l none;have:=h.1;omega)
 unfold zt columnsE
 generalize yf 0 l=T at *
 generalize zu none l=V at *
 clear h
 go_enter Tryz.func51,Tryz.ntmps51
 go_wp2_with fail
 refine C1.mono ?_
 rintro e w1 ⟨v1,rfl,hO1,hE1⟩
 have C3:=C2.out w1 hE1
 go_wp2_with fail
 refine C3.mono ?_
 rintro e w2 ⟨v2,rfl,hO2,hE2⟩
 obtain⟨A1,c1,rfl,k1,m1,q1⟩:=(hO1.ext hE2).form
 obtain⟨A2,c2,rfl,k2,m2,q2⟩:=hO2.form
 have hE3:=zb w2 (.cells #[.slice A1 T.length c1,.slice A2 V.length c2] 29)
 have hP:Parts (w2.alloc (.cells #[.slice A1 T.length c1,.slice A2 V.length c2] 29)) (w2.alloc (.cells #[.slice A1 T.length c1,.slice A2 V.length c2] 29)).heap.size (some ⟨w2.heap.size,0,none⟩) 2 [T,V]:=by
  refine⟨rfl,.inr ⟨w2.heap.size,0,rfl,by simp,fun i hi=>?_⟩⟩
  have hT:=HTl.out
  have hV:=HLl.out
  rw[Nat.zero_add,zA]
  match i,hi with
  | 0,_=>exact⟨A1,T.length,c1,rfl,by unfold maxLen;omega,hE3.bytes q1⟩
  | 1,_=>exact⟨A2,V.length,c2,rfl,by unfold maxLen;omega,hE3.bytes q2⟩
 have CA:=yS _ 2 [T,V] _ hP (by simp) (by have:=HTl.out;have:=HLl.out;simp;omega)
 rw[show [T,V].flatten=T++V by simp]at CA
 have HE:=hide ((hE1.trans hE2).trans hE3)
 clear C1 C3 hO1 hO2 hE1 hE2 hE3 hP k1 k2 m1 m2 q1 q2
 generalize T.length=n1 at *
 generalize V.length=n2 at *
 go_wp2_with fail
 refine CA.mono ?_
 rintro e w4 ⟨v4,rfl,hO4,hE4⟩
 go_wp2
 go_ret
 exact⟨_,rfl,hO4.mono (by have:=HE.out.le;omega),HE.out.trans hE4⟩
end
end Go.Proofs.YtpmedpdjglcdpaaGreatDoor
