/- The program's functions of chapter 15: small, letters, allSmall, One, Term. The program's each: the words of a text handed to whoever asks. -/
import Derived.Test.YtpmedpdjglcdpaaGreatDoorB02
import Derived.Test.YtpmedpdjglcdpaaGreatDoorB06
import Derived.Test.YtpmedpdjglcdpaaGreatDoorB09
import Derived.Test.YtpmedpdjglcdpaaGreatDoorB41
import Derived.BigQuiet
import Derived.OwnWalk
namespace Go.Proofs.YtpmedpdjglcdpaaGreatDoor
section
open Go.RowKit Wrd
attribute [local go_sem ↓] yn z7 z8 xH
set_option maxHeartbeats 1000000 in
theorem XK (c:UInt8)(w:World):Calls Tryz.prog 164 #[.int .u8 (c.toNat:Int)] w fun e w'=>e=.returned (.tuple #[.int .u8 ((small c).toNat:Int),.bool (isL c)])∧w=w':=by
 have hc:c.toNat<256:=c.toNat_lt
 have hs:small c=if (97≤c.toNat∧c.toNat≤122)∨(48≤c.toNat∧c.toNat≤57) then c else if 65≤c.toNat∧c.toNat≤90 then c+32 else 0:=rfl
 have hL:isL c=decide (small c≠0):=by
  cases h:isL c with
  | true=>exact (decide_eq_true (aav.1 h)).symm
  | false=>exact (decide_eq_false (fun e=>e (acf.1 h))).symm
 have h32:c.toNat≤90→(c+32).toNat=c.toNat+32:=fun h=>by rw[UInt8.toNat_add];show (c.toNat+32) % 256=_;omega
 have hnz:∀ x:UInt8,x.toNat≠0→x≠0:=fun x h e=>h (by rw[e];rfl)
 by_cases a1:97≤c.toNat∧c.toNat≤122
 ·rw[if_pos (.inl a1)]at hs
  rw[hL,hs,decide_eq_true (hnz c (by omega))]
  obtain⟨n,hn⟩:∃ n,n=c.toNat:=⟨_,rfl⟩
  rw[← hn]at a1 ⊢
  have b0:(65:Int)≤(n:Int):=by omega
  have b00:¬ (n:Int)≤(90:Int):=by omega
  have b1:(97:Int)≤(n:Int):=by omega
  have b2:(n:Int)≤(122:Int):=by omega
  clear hn hs h32 hc a1 hL hnz
  go_enter Tryz.func164,Tryz.ntmps164
  go_wp2
  go_ret2
  exact⟨rfl,rfl⟩
 by_cases a2:48≤c.toNat∧c.toNat≤57
 ·rw[if_pos (.inr a2)]at hs
  rw[hL,hs,decide_eq_true (hnz c (by omega))]
  obtain⟨n,hn⟩:∃ n,n=c.toNat:=⟨_,rfl⟩
  rw[← hn]at a2 ⊢
  have b0:¬ (65:Int)≤(n:Int):=by omega
  have b1:¬ (97:Int)≤(n:Int):=by omega
  have b2:(48:Int)≤(n:Int):=by omega
  have b3:(n:Int)≤(57:Int):=by omega
  clear hn hs h32 hc a2 a1 hL hnz
  go_enter Tryz.func164,Tryz.ntmps164
  go_wp2
  go_ret2
  exact⟨rfl,rfl⟩
 rw[if_neg (by omega)]at hs
 by_cases a3:65≤c.toNat∧c.toNat≤90
 ·rw[if_pos a3]at hs
  rw[hL,hs,decide_eq_true (hnz (c+32) (by rw[h32 a3.2];omega)),h32 a3.2]
  obtain⟨n,hn⟩:∃ n,n=c.toNat:=⟨_,rfl⟩
  rw[← hn]at a3 ⊢
  have b4:(65:Int)≤(n:Int):=by omega
  have b5:(n:Int)≤(90:Int):=by omega
  have hw:IntKind.u8.wrap ((n:Int)+32)=((n+32:Nat):Int):=by rw[IntKind.wrap_u8];omega
  clear hn hs h32 hc a3 a2 a1 hL hnz
  go_enter Tryz.func164,Tryz.ntmps164
  go_wp2
  go_ret2
  exact⟨rfl,rfl⟩
 rw[if_neg a3]at hs
 rw[hL,hs,decide_eq_false (fun e=>e rfl)]
 obtain⟨n,hn⟩:∃ n,n=c.toNat:=⟨_,rfl⟩
 rw[← hn]at a1 a2 a3 hc ⊢
 clear hn hs h32 hL hnz
 rcases (by omega:n<48∨(57<n∧n<65)∨(90<n∧n<97)∨122<n) with h|h|h|h
 ·have b0:¬ (65:Int)≤(n:Int):=by omega
  have b1:¬ (97:Int)≤(n:Int):=by omega
  have b2:¬ (48:Int)≤(n:Int):=by omega
  clear h a1 a2 a3 hc
  go_enter Tryz.func164,Tryz.ntmps164
  go_wp2
  go_ret2
  exact⟨rfl,rfl⟩
 ·have b0:¬ (65:Int)≤(n:Int):=by omega
  have b1:¬ (97:Int)≤(n:Int):=by omega
  have b2:(48:Int)≤(n:Int):=by omega
  have b3:¬ (n:Int)≤(57:Int):=by omega
  clear h a1 a2 a3 hc
  go_enter Tryz.func164,Tryz.ntmps164
  go_wp2
  go_ret2
  exact⟨rfl,rfl⟩
 ·have b0:(65:Int)≤(n:Int):=by omega
  have b00:¬ (n:Int)≤(90:Int):=by omega
  have b1:¬ (97:Int)≤(n:Int):=by omega
  have b2:(48:Int)≤(n:Int):=by omega
  have b3:¬ (n:Int)≤(57:Int):=by omega
  clear h a1 a2 a3 hc
  go_enter Tryz.func164,Tryz.ntmps164
  go_wp2
  go_ret2
  exact⟨rfl,rfl⟩
 ·have b0:(65:Int)≤(n:Int):=by omega
  have b00:¬ (n:Int)≤(90:Int):=by omega
  have b1:(97:Int)≤(n:Int):=by omega
  have b11:¬ (n:Int)≤(122:Int):=by omega
  have b2:(48:Int)≤(n:Int):=by omega
  have b3:¬ (n:Int)≤(57:Int):=by omega
  clear h a1 a2 a3 hc
  go_enter Tryz.func164,Tryz.ntmps164
  go_wp2
  go_ret2
  exact⟨rfl,rfl⟩
set_option maxHeartbeats 1000000 in
set_option maxRecDepth 10000 in
theorem Qg (l:List UInt8)(w:World)(hl:l.length≤maxLen):Calls Tryz.prog 139 #[.string ⟨l.toArray⟩] w fun e w'=>e=.returned (.int .i64 (xB l:Int))∧Ext w w':=by
 unfold maxLen at hl
 have HIs:=hide (aaR l)
 generalize xB l=res at *
 go_enter Tryz.func139,Tryz.ntmps139
 go_wp2
 go_loopw [8] (fun x wr=>∃ i:Nat,i≤l.length∧x=.int .i64 (i:Int)∧(∀ j,j<i→isL (l.getD j 0)=true)∧Ext w wr) (fun x _=>l.length-(intOf x).toNat)
 case atStart=>exact⟨0,by omega,rfl,fun j hj=>absurd hj (by omega),Ext.refl _⟩
 case round =>
  obtain⟨i,hi,rfl,hall,hE⟩:=hrel
  have HAl:=hide hall
  have HE:=hide hE
  clear hall hE
  by_cases hlt:i<l.length
  ·have hiI:(i:Int)<(l.length:Int):=by omega
   obtain⟨d,hd0⟩:∃ d,d=l.getD i 0:=⟨_,rfl⟩
   have hd:l[i]'hlt=d:=by rw[hd0];simp[List.getD_eq_getElem?_getD,hlt]
   have CD:=fun W=>XK d W
   generalize (small d).toNat=z at *
   cases hL:isL d with
   | false =>
    have HR:=hide (HIs.out i hi HAl.out (fun _=>by rw[← hd0];exact hL))
    rw[hL]at CD
    clear hL hd0
    go_wp2_with fail
    refine (CD _).mono ?_
    rintro e w' ⟨rfl,rfl⟩
    go_wp2
    go_ret
    rw[HR.out]
    exact⟨rfl,HE.out⟩
   | true =>
    have HN:=hide (show ∀ j,j<i+1→isL (l.getD j 0)=true from fun j hj=>by
     by_cases e:j=i
     ·rw[e,← hd0];exact hL
     ·exact HAl.out j (by omega))
    rw[hL]at CD
    clear hL hd0
    go_wp2_with fail
    refine (CD _).mono ?_
    rintro e w' ⟨rfl,rfl⟩
    go_wp2
    go_roundw
    case rel=>exact⟨i+1,by omega,by go_num,HN.out,HE.out⟩
    case measure=>simp[intOf];omega
  ·have hiI:¬ (i:Int)<(l.length:Int):=by omega
   have HR:=hide (HIs.out i hi HAl.out (fun h=>absurd h hlt))
   have HI:=hide (show i=l.length by omega)
   clear hlt
   go_wp2
   go_ret
   rw[HR.out,HI.out]
   exact⟨rfl,HE.out⟩
set_option maxHeartbeats 1000000 in
set_option maxRecDepth 10000 in
theorem Za (l:List UInt8)(w:World)(hl:l.length≤24):Calls Tryz.prog 140 #[.string ⟨l.toArray⟩] w fun e w'=>e=.returned (.string ⟨(l.map small).toArray⟩)∧Ext w w':=by
 obtain⟨L,hL0⟩:∃ L:Nat→List UInt8,L=fun i=>(l.take i).map small++List.replicate (l.length-i) 0:=⟨_,rfl⟩
 have HL0:=hide (show List.replicate l.length 0=L 0 by rw[hL0];simp)
 have HLn:=hide (show L l.length=l.map small by rw[hL0];simp)
 have HLl:=hide (show ∀ i,i≤l.length→(L i).length=l.length from fun i hi=>by rw[hL0];simp;omega)
 have HLs:=hide (show ∀ i,i<l.length→(L i).set i (small (l.getD i 0))=L (i+1) from fun i hi=>by
  rw[hL0]
  dsimp only
  rw[List.set_append_right _ _ (by simp;omega),List.length_map,List.length_take,show i-min i l.length=0 by omega,show l.length-i=(l.length-(i+1))+1 by omega,List.replicate_succ,List.set_cons_zero,List.take_add_one,List.getElem?_eq_getElem hi,List.getD_eq_getElem?_getD,List.getElem?_eq_getElem hi]
  simp only[Option.toList_some,Option.getD_some,List.map_append,List.map_cons,List.map_nil,List.append_assoc,List.cons_append,List.nil_append])
 generalize l.map small=res at *
 clear hL0
 go_enter Tryz.func140,Tryz.ntmps140
 go_wp2_with (refine xX (n:=l.length) rfl (.tmp 6) (.tmp 6) rfl rfl rfl (by omega) ?_;intro w1 hO1 hE1;rw[HL0.out]at hO1;have HO1:=hide hO1;have HE1:=hide hE1;clear hO1 hE1)
 go_loopw [10] (fun x wr=>∃ i:Nat,i≤l.length∧x=.int .i64 (i:Int)∧OwnB wr w.heap.size (.slice (some ⟨w.heap.size,0,none⟩) l.length l.length) (L i)∧Ext w wr) (fun x _=>l.length-(intOf x).toNat)
 case atStart=>exact⟨0,by omega,rfl,HO1.out,HE1.out⟩
 case round =>
  obtain⟨i,hi,rfl,hO,hE⟩:=hrel
  by_cases hlt:i<l.length
  ·have hiI:(i:Int)<(l.length:Int):=by omega
   obtain⟨d,hd0⟩:∃ d,d=l.getD i 0:=⟨_,rfl⟩
   have hd:l[i]'hlt=d:=by rw[hd0];simp[List.getD_eq_getElem?_getD,hlt]
   have CD:=fun W=>XK d W
   obtain⟨e1,f1⟩:=hO.cell (i:=i) (by rw[HLl.out i hi];exact hlt)
   have HS:=hide (hO.set i (small d))
   rw[hd0,HLs.out i hlt,← hd0]at HS
   have HE:=hide (hE.setCell (g:=w.heap.size) (i:=i) (Nat.le_refl _) (.int .u8 ((small d).toNat:Int)))
   generalize (small d).toNat=z at *
   generalize isL d=b at *
   clear hO hE hd0
   go_wp2_with fail
   refine (CD _).mono ?_
   rintro e w' ⟨rfl,rfl⟩
   go_wp2
   go_roundw
   case rel=>exact⟨i+1,by omega,by go_num,HS.out,HE.out⟩
   case measure=>simp[intOf];omega
  ·have hiI:¬ (i:Int)<(l.length:Int):=by omega
   have hil:i=l.length:=by omega
   subst hil
   rw[HLn.out]at hO
   obtain⟨Aq,cq,hv,hq1,hq2,hq3⟩:=hO.form
   simp only[Value.slice.injEq]at hv
   obtain⟨hv1,hv2,hv3⟩:=hv
   rw[← hv2]at hq3
   have hcv:=xg l.length hq3 (fun h=>by rw[← hv1]at h;cases h)
   rw[← hv1]at hcv
   have HE:=hide hE
   clear hv1 hv2 hv3 hq1 hq2 hq3 hO hE hlt
   go_wp2
   go_ret
   exact⟨rfl,HE.out⟩
end
section
open Go.RowKit Wrd
def Zb (K:Nat):Prop:=∀ (args:Array Value) (W:World),(callFunc K args).run Tryz.prog W=.ok (.enter K args) W
theorem Z9 {K : Nat} {fn : Func} {c : Code} (hf : Tryz.prog.funcs[K]? = some fn) (hname : (fn.name == "runtime.NumGoroutine") = false) (hb : fn.body = some c) : Zb K := by
 intro args W
 have h1 : fn.name ≠ "runtime.NumGoroutine" := by simpa using hname
 simp[callFunc,hf,h1,hb]
def U1:Value→Nat
 | .string b=>b.size
 | _=>0
theorem xf (s:List UInt8)(k:Nat):(ByteArray.mk s.toArray).extract k s.length=⟨(s.drop k).toArray⟩:=by
 apply ByteArray.ext
 rw[ByteArray.data_extract]
 show s.toArray.extract k s.length=(s.drop k).toArray
 rw[List.extract_toArray,List.extract_eq_take_drop,List.take_of_length_le (by simp)]
attribute [local go_sem ↓] yn z7 z8 xH
set_option maxHeartbeats 2000000 in
set_option maxRecDepth 10000 in
theorem Qh {K:Nat}(hK:Zb K){cap:Value}{St:List (List UInt8)→World→Prop}(most:Nat)(hC:∀ pre x W,St pre W→pre.length≤most→x.length≤24→Calls Tryz.prog K #[.string ⟨x.toArray⟩,cap] W fun e W'=>(∃ v,e=.returned v)∧St (pre++[x]) W')
  (hE:∀ pre W W',St pre W→Ext W W'→St pre W') (l:List UInt8) (pre0:List (List UInt8)) (w:World) (hl:l.length≤100000) (hm:pre0.length+l.length≤most) (h0:St pre0 w) :
  Calls Tryz.prog 105 #[.string ⟨l.toArray⟩,.func (.func K) #[] #[cap]] w fun e w'=>(∃ v,e=.returned v)∧St (pre0++zv l) w':=by
 have hEn:=fun args W=>hK args W
 have HC:=hide hC
 have HE:=hide hE
 have HRes:=hide (show pre0++zv l=pre0++zv l from rfl)
 have HLen:=hide (show pre0.length+(zv l).length≤most by have:=xm l;omega)
 have HLn:=hide (show (pre0++zv l).length≤most by rw[List.length_append];exact HLen.out)
 have HNil:=hide (show zv []=[] from rfl)
 have HStep:=hide abV
 have HLl:=hide hl
 have H0:=hide h0
 generalize hres:pre0++zv l=res at *
 clear hC hE hm h0 HLen
 go_enter Tryz.func105,Tryz.ntmps105
 go_wp2
 go_loopw [0] (fun x wr=>∃ (s:List UInt8) (pre:List (List UInt8)),s.length≤l.length∧x=.string ⟨s.toArray⟩∧res=pre++zv s∧St pre wr) (fun x _=>U1 x)
 case atStart=>exact⟨l,pre0,Nat.le_refl _,rfl,hres.symm,H0.out⟩
 case round =>
  clear H0 HRes hres
  obtain⟨s,pre,hs,rfl,hrs,hSt⟩:=hrel
  have HSt:=hide hSt
  have hs1:s.length≤100000:=by have:=HLl.out;omega
  clear hSt
  by_cases hp:0<s.length
  ·have hpI:(0:Int)<(s.length:Int):=by omega
   have CL:=fun W=>Qg s W (by unfold maxLen;omega)
   rw[HStep.out s hp]at hrs
   have hnl:=aaQ s
   have HRs:=hide hrs
   obtain⟨n,hn⟩:∃ n,n=xB s:=⟨_,rfl⟩
   rw[← hn]at CL HRs hnl
   have HDrop:=hide (show ∀ k,0<k→k≤s.length→(s.drop k).length≤l.length∧U1 (.string ⟨(s.drop k).toArray⟩)<U1 (.string ⟨s.toArray⟩) from fun k h0 h1=>⟨by rw[List.length_drop];omega,by
    show (ByteArray.mk _).size<(ByteArray.mk _).size
    rw[ye,ye,List.length_drop]
    omega⟩)
   clear hrs hn hs
   by_cases hn0:0<n
   ·have hn0I:(0:Int)<(n:Int):=by omega
    have HPl:=hide (show pre.length≤most by
     have:=HLn.out
     rw[HRs.out,List.length_append]at this
     omega)
    by_cases h24:24<n
    ·have h24I:(24:Int)<(n:Int):=by omega
     have hms:(24:Int)≤(s.length:Int):=by omega
     have CA:=fun W=>Za (s.take 24) W (by rw[List.length_take];omega)
     have HMin:=hide (show min n 24=24 by omega)
     have HMl:=hide (show ((s.take 24).map small).length≤24 by rw[List.length_map,List.length_take];omega)
     clear h24 hn0
     go_wp2_with fail
     refine (CL _).mono ?_
     rintro e w2 ⟨rfl,hE2⟩
     have HS2:=hide (HE.out _ _ _ HSt.out hE2)
     clear hE2
     go_wp2_with fail
     refine (CA _).mono ?_
     rintro e w3 ⟨rfl,hE3⟩
     have CH:=HC.out _ ((s.take 24).map small) _ (HE.out _ _ _ HS2.out hE3) HPl.out HMl.out
     generalize hz:(s.take 24).map small=z at *
     have HZ:=hide hz
     clear hE3 hz
     go_wp2_with fail
     refine CH.mono ?_
     rintro e w4 ⟨⟨v4,rfl⟩,hS4⟩
     have HS4:=hide hS4
     clear hS4 CH
     by_cases hb:n<s.length
     ·have hbI:¬ (s.length:Int)<(n:Int)+1:=by omega
      have hb2:(n:Int)+1≤(s.length:Int):=by omega
      have HD:=hide (HDrop.out (n+1) (by omega) (by omega))
      have HR3:=hide (show res=(pre++[z])++zv (s.drop (n+1)) by rw[HRs.out,if_pos (by omega),HMin.out,HZ.out,List.append_assoc,show min (n+1) s.length=n+1 by omega])
      clear hb HRs hnl HDrop
      go_wp2
      go_roundw
      case rel=>exact⟨s.drop (n+1),(pre++[z]),HD.out.1,by first | rfl | exact congrArg Value.string (xf _ _) | rw[List.drop_length],HR3.out,HS4.out⟩
      case measure=>have hm:=HD.out.2;first | exact hm | (rw[← xf]at hm;exact hm) | (rw[List.drop_length]at hm;exact hm) | (rw[List.drop_one]at hm;exact hm)
     ·have hbI:(s.length:Int)<(n:Int)+1:=by omega
      have hnI:(n:Int)≤100000:=by omega
      have HD:=hide (HDrop.out (s.length) (by omega) (by omega))
      have HR3:=hide (show res=(pre++[z])++zv (s.drop (s.length)) by rw[HRs.out,if_pos (by omega),HMin.out,HZ.out,List.append_assoc,show min (n+1) s.length=s.length by omega])
      clear hb HRs hnl HDrop
      go_wp2
      go_roundw
      case rel=>exact⟨s.drop (s.length),(pre++[z]),HD.out.1,by first | rfl | exact congrArg Value.string (xf _ _) | rw[List.drop_length],HR3.out,HS4.out⟩
      case measure=>have hm:=HD.out.2;first | exact hm | (rw[← xf]at hm;exact hm) | (rw[List.drop_length]at hm;exact hm) | (rw[List.drop_one]at hm;exact hm)
    ·have h24I:¬ (24:Int)<(n:Int):=by omega
     have hms:(n:Int)≤(s.length:Int):=by omega
     have CA:=fun W=>Za (s.take n) W (by rw[List.length_take];omega)
     have HMin:=hide (show min n 24=n by omega)
     have HMl:=hide (show ((s.take n).map small).length≤24 by rw[List.length_map,List.length_take];omega)
     clear h24 hn0
     go_wp2_with fail
     refine (CL _).mono ?_
     rintro e w2 ⟨rfl,hE2⟩
     have HS2:=hide (HE.out _ _ _ HSt.out hE2)
     clear hE2
     go_wp2_with fail
     refine (CA _).mono ?_
     rintro e w3 ⟨rfl,hE3⟩
     have CH:=HC.out _ ((s.take n).map small) _ (HE.out _ _ _ HS2.out hE3) HPl.out HMl.out
     generalize hz:(s.take n).map small=z at *
     have HZ:=hide hz
     clear hE3 hz
     go_wp2_with fail
     refine CH.mono ?_
     rintro e w4 ⟨⟨v4,rfl⟩,hS4⟩
     have HS4:=hide hS4
     clear hS4 CH
     by_cases hb:n<s.length
     ·have hbI:¬ (s.length:Int)<(n:Int)+1:=by omega
      have hb2:(n:Int)+1≤(s.length:Int):=by omega
      have HD:=hide (HDrop.out (n+1) (by omega) (by omega))
      have HR3:=hide (show res=(pre++[z])++zv (s.drop (n+1)) by rw[HRs.out,if_pos (by omega),HMin.out,HZ.out,List.append_assoc,show min (n+1) s.length=n+1 by omega])
      clear hb HRs hnl HDrop
      go_wp2
      go_roundw
      case rel=>exact⟨s.drop (n+1),(pre++[z]),HD.out.1,by first | rfl | exact congrArg Value.string (xf _ _) | rw[List.drop_length],HR3.out,HS4.out⟩
      case measure=>have hm:=HD.out.2;first | exact hm | (rw[← xf]at hm;exact hm) | (rw[List.drop_length]at hm;exact hm) | (rw[List.drop_one]at hm;exact hm)
     ·have hbI:(s.length:Int)<(n:Int)+1:=by omega
      have hnI:(n:Int)≤100000:=by omega
      have HD:=hide (HDrop.out (s.length) (by omega) (by omega))
      have HR3:=hide (show res=(pre++[z])++zv (s.drop (s.length)) by rw[HRs.out,if_pos (by omega),HMin.out,HZ.out,List.append_assoc,show min (n+1) s.length=s.length by omega])
      clear hb HRs hnl HDrop
      go_wp2
      go_roundw
      case rel=>exact⟨s.drop (s.length),(pre++[z]),HD.out.1,by first | rfl | exact congrArg Value.string (xf _ _) | rw[List.drop_length],HR3.out,HS4.out⟩
      case measure=>have hm:=HD.out.2;first | exact hm | (rw[← xf]at hm;exact hm) | (rw[List.drop_length]at hm;exact hm) | (rw[List.drop_one]at hm;exact hm)
   ·have hn0I:¬ (0:Int)<(n:Int):=by omega
    clear hn0I
    obtain rfl:n=0:=by omega
    clear hn0
    go_wp2_with fail
    refine (CL _).mono ?_
    rintro e w2 ⟨rfl,hE2⟩
    have HS2:=hide (HE.out _ _ _ HSt.out hE2)
    clear hE2
    have hb1:(1:Int)≤(s.length:Int):=by omega
    have HD:=hide (HDrop.out 1 (by omega) (by omega))
    have HR3:=hide (show res=pre++zv (s.drop 1) by rw[HRs.out,if_neg (by omega),List.nil_append,show min (0+1) s.length=1 by omega])
    clear HRs hnl HDrop
    go_wp2
    go_roundw
    case rel=>exact⟨s.drop 1,pre,HD.out.1,by first | rfl | exact congrArg Value.string (xf _ _) | rw[List.drop_one],HR3.out,HS2.out⟩
    case measure=>have hm:=HD.out.2;first | exact hm | (rw[← xf]at hm;exact hm) | (rw[List.drop_length]at hm;exact hm) | (rw[List.drop_one]at hm;exact hm)
  ·have hs0:s=[]:=List.eq_nil_of_length_eq_zero (by omega)
   subst hs0
   rw[HNil.out,List.append_nil]at hrs
   subst hrs
   clear hp
   go_wp2
   go_end0
   exact⟨⟨_,rfl⟩,HSt.out⟩
end
end Go.Proofs.YtpmedpdjglcdpaaGreatDoor
