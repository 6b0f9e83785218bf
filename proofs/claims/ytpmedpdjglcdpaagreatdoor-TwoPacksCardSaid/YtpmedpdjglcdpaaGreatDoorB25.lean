/- The document's Write of chapter 8. The document's New and Put of chapter 9. The document's Pack of chapter 9. The document's Get of chapter 9. What the laws of chapter 8 ask of Write; the law CanonWrites. Contract of the program's Write. Th -/
import Derived.Test.YtpmedpdjglcdpaaGreatDoorB02
import Derived.Test.YtpmedpdjglcdpaaGreatDoorB06
import Derived.Test.YtpmedpdjglcdpaaGreatDoorB09
import Derived.Test.YtpmedpdjglcdpaaGreatDoorB10
import Derived.Test.YtpmedpdjglcdpaaGreatDoorB14
import Derived.Test.YtpmedpdjglcdpaaGreatDoorB15
import Derived.Test.YtpmedpdjglcdpaaGreatDoorB18
import Derived.StillTailTactics
import Derived.BigQuiet
namespace Go.Proofs.YtpmedpdjglcdpaaGreatDoor
section
open Go.RowKit Len Can
namespace Can
theorem abJ {f m:Nat}{r:List UInt8}(hm:m≤zrun f r)(hl:m<r.length)(h0:r.getD m 0=0)(hf:m<f):m+1≤zrun f r:=by
 rcases Nat.lt_or_ge m (zrun f r) with h|h
 ·exact h
 ·obtain rfl:m=zrun f r:=by omega
  refine absurd h0 (Zs f r hf _ ?_)
  rw[List.head?_drop,List.getD_eq_getElem?_getD,List.getElem?_eq_getElem hl]
  rfl
theorem ZC {f m:Nat}{r:List UInt8}(hm:m≤zrun f r)(h:r.length≤m∨r.getD m 0≠0∨f≤m):m=zrun f r:=by
 rcases Nat.lt_or_ge m (zrun f r) with h2|h2
 ·exfalso
  have hz:=jt f r
  rcases h with h|h|h
  ·omega
  ·apply h
   have e:=congrArg (fun l=>l.getD m 0) (Zr f r)
   simp only[List.getD_eq_getElem?_getD,List.getElem?_take,if_pos h2]at e
   rw[List.getD_eq_getElem?_getD,e]
   simp[h2]
  ·omega
 ·omega
structure Wr (l:List UInt8)(i:Nat)(P:List Bool):Prop where
 le:i≤l.length
 eq:P++wbits (l.drop i)=wbits l
theorem Wr.start (l:List UInt8):Wr l 0 []:=⟨Nat.zero_le _,rfl⟩
section
variable {l:List UInt8}{i:Nat}{P:List Bool}
theorem Wr.all (h:Wr l l.length P):P=wbits l:=by
 have:=h.eq
 rwa [List.drop_length,Zt,List.append_nil]at this
theorem Wr.small (h:Wr l i P):P.length≤10*l.length:=by
 have:=congrArg List.length h.eq
 have h2:=yP l
 rw[List.length_append]at this
 omega
theorem VT (hi:i<l.length):l.drop i=l.getD i 0::l.drop (i+1):=by
 rw[List.drop_eq_getElem_cons hi,List.getD_eq_getElem?_getD,List.getElem?_eq_getElem hi]
 rfl
theorem Wr.used (h:Wr l i P)(hi:i<l.length)(h0:zg l i≠0):Wr l (i+1) (P++Bit.num (zg l i) 4):=by
 refine⟨hi,?_⟩
 rw[← h.eq,VT hi,jX _ (fun e=>h0 (by unfold zg;rw[e];rfl)),List.append_assoc]
 rfl
theorem Wr.zero (h:Wr l i P)(hi:i<l.length)(h0:zg l i=0){m:Nat}(hm:m=zrun 63 (l.drop (i+1))):Wr l (i+1+m) (P++Bit.num 0 4++Bit.num m 6):=by
 have hz:=jt 63 (l.drop (i+1))
 rw[List.length_drop]at hz
 refine⟨by omega,?_⟩
 have e0:l.getD i 0=0:=UInt8.toNat_inj.1 h0
 rw[← h.eq,VT hi,e0,jY,← hm,List.drop_drop]
 simp[List.append_assoc]
theorem J3 (m:Nat):(l.drop (i+1)).getD m 0=l.getD (i+1+m) 0:=by simp[List.getD_eq_getElem?_getD,List.getElem?_drop]
end
theorem aen {x:Nat}(h:x≤15):Bit.putBits x 4=Bit.num x 4:=(Bit.put_good (decide_eq_true ⟨by omega,by omega,by show x<2 ^ 4;omega⟩)).2
theorem aeo {x:Nat}(h:x≤63):Bit.putBits x 6=Bit.num x 6:=(Bit.put_good (decide_eq_true ⟨by omega,by omega,by show x<2 ^ 6;omega⟩)).2
end Can
set_option maxHeartbeats 4000000 in
set_option maxRecDepth 100000 in
theorem jH {w:World}{base g:Nat}{ob:Option Nat}{R:List UInt8}(h:RefW w base g ob R)(hR:R.length≤800000000)(A:Option Addr)(n c:Nat)(l:List UInt8)(hBk:∀ W,Mod w W g ob→Bytes W w.heap.size A n l) :
  Calls Tryz.prog 118 #[.pointer (some ⟨g,0,none⟩),.slice A n c] w (jr w base g ob (R++(if right l then wbits l else []).map yX) (checkE l)):=by
 have hB:=hBk w (Mod.ofExt (Ext.refl w))
 have hl:=hB.1
 subst hl
 have hbw:base≤w.heap.size:=Nat.le_of_lt (Nat.lt_of_le_of_lt h.le h.lt)
 have C1:=qF A l.length c l w hB
 cases hr:right l with
 | false =>
  have HE:=hide (yw hr)
  rw[yw hr]at C1
  generalize checkE l=E at *
  have HF:=hide h
  clear hr h
  go_enter Tryz.func118,Tryz.ntmps118
  go_wp2_with fail
  refine C1.mono ?_
  rintro e w2 ⟨rfl,hE⟩
  go_wp2
  go_ret
  rw[HE.out]
  exact⟨rfl,ob,by simpa using HF.out.ext hE,.inl rfl,Mod.ofExt hE⟩
 | true =>
  have HE:=hide (zU hr)
  rw[zU hr]at C1
  obtain⟨h300,h15,_⟩:=zD hr
  have H15:=hide h15
  have HSt:=hide (Wr.start l)
  generalize checkE l=E at *
  clear hr h15
  obtain⟨N,hN⟩:∃ N,N=l.length:=⟨_,rfl⟩
  have HNl:=hide hN
  rw[← hN]at C1 h300 hBk ⊢
  have HB:=hide hBk
  have HF:=hide h
  have hgb:=h.le
  have hob:=fun k hk=>(h.own k hk).1
  clear hN hB hBk h
  go_enter Tryz.func118,Tryz.ntmps118
  go_wp2_with fail
  refine C1.mono ?_
  rintro e w2 ⟨rfl,hE⟩
  clear C1
  go_wp2_with fail
  go_loopw [5] (fun a wr=>∃ (i:Nat) (P:List Bool) (ob1:Option Nat),i≤N∧a=.int .i64 (i:Int)∧RefW wr base g ob1 (R++P.map yX)∧NewOb w ob ob1∧Mod w wr g ob∧Wr l i P) (fun a _=>N-(intOf a).toNat)
  case atStart=>exact⟨0,[],ob,Nat.zero_le _,rfl,by simpa using HF.out.ext hE,.inl rfl,Mod.ofExt hE,HSt.out⟩
  case round =>
   obtain⟨i,P,ob1,hi,rfl,hW,hN1,hM,hP⟩:=hrel
   by_cases hlt:i<N
   ·have hil:(i:Int)<(N:Int):=by omega
    rcases (HB.out _ hM).2 with h0 | ⟨b,off,rfl,hbb,hc⟩
    ·omega
    have hk:=hc i hlt
    have hy15:=H15.out i (by rw[← HNl.out];exact hlt)
    have hps:=hP.small
    rw[← HNl.out]at hps
    obtain⟨y,hy⟩:∃ y,y=zg l i:=⟨_,rfl⟩
    have hk':wr.cell? ⟨b,off+i,none⟩=some (.int .u8 (y:Int)):=by rw[hy];exact hk
    rw[← hy]at hy15
    have HY:=hide hy
    have HC:=hide hc
    have HP:=hide hP
    have HM:=hide hM
    clear hk hy hc hP
    have hlen:(R++P.map yX).length≤900000000:=by simp;omega
    have CP:=xI hW y 4 (by omega) hlen
    rw[aen hy15,List.append_assoc,← List.map_append]at CP
    generalize Bit.putErr (↑y) 4=E1 at CP
    clear hW
    go_wp2_with fail
    refine CP.mono ?_
    rintro e w3 ⟨rfl,ob3,hW3,hN3,hM3⟩
    clear CP
    have hN4:=hN1.trans HM.out.size hN3
    have HM4:=hide (HM.out.trans hM3 hN1)
    have HW3:=hide hW3
    rcases (HB.out _ HM4.out).2 with h0 | ⟨b2,off2,hA2,_,hc3⟩
    ·omega
    have hb2:b2=b∧off2=off:=by injection hA2 with e;injection e with e1 e2;exact⟨e1.symm,e2.symm⟩
    obtain⟨rfl,rfl⟩:=hb2
    have hk3:=hc3 i hlt
    have hk3':w3.cell? ⟨b2,off2+i,none⟩=some (.int .u8 (y:Int)):=by rw[HY.out];exact hk3
    have HC3:=hide hc3
    clear hc3 hk3 hk' hM hM3 hW3 hA2 hN3
    by_cases y0:y=0
    ·have HY0:=hide (show zg l i=0 by rw[← HY.out];exact y0)
     subst y0
     go_wp2_with fail
     go_loopw [5,6] (fun a d wq=>∃ m:Nat,a=.int .i64 ((i+m:Nat):Int)∧d=.int .i64 (m:Int)∧m≤zrun 63 (l.drop (i+1))∧Qt w3 wq) (fun _ d _=>63-(intOf d).toNat)
     case atStart=>exact⟨0,rfl,rfl,Nat.zero_le _,Qt.refl _⟩
     case round =>
      obtain⟨m,rfl,rfl,hm,q,rfl⟩:=hrel
      have hz:=jt 63 (l.drop (i+1))
      rw[List.length_drop,← HNl.out]at hz
      have CW:∀ W,Ext w3 W→Calls Tryz.prog 93 #[.pointer (some ⟨g,0,none⟩),.int .u64 (m:Int),.int .i64 6] W (jr W base g ob3 (R++(P++Bit.num 0 4++Bit.num m 6).map yX) (Bit.putErr m 6)):=fun W hX=>by
       have:=xI (HW3.out.ext hX) m 6 (by omega) (by simp[Bit.num_length];omega)
       rw[aeo (by omega),List.append_assoc,← List.map_append]at this
       exact this
      have HEx:=hide (show m=zrun 63 (l.drop (i+1))→∀ w5 ob5,NewOb (w3.drewN q) ob3 ob5→Mod (w3.drewN q) w5 g ob3→i+m+1≤N∧NewOb w ob ob5∧Mod w w5 g ob∧Wr l (i+m+1) (P++Bit.num 0 4++Bit.num m 6) from fun hmz w5 ob5 hN5 hM5=>by
       have hE3:Ext w3 (w3.drewN q):=(Ext.refl w3).drewN q
       have hMd:Mod w (w3.drewN q) g ob:=HM4.out.trans (Mod.ofExt (ob:=ob3) hE3) hN4
       refine⟨by omega,hN4.trans hMd.size hN5,hMd.trans hM5 hN4,?_⟩
       rw[show i+m+1=i+1+m by omega]
       exact HP.out.zero (by rw[← HNl.out];exact hlt) HY0.out hmz)
      generalize Bit.putErr m 6=E6 at CW
      by_cases hin:i+m+1<N
      ·have hinI:((i+m:Nat):Int)+1<(N:Int):=by omega
       obtain⟨z,hz2⟩:∃ z,z=l.getD (i+1+m) 0:=⟨_,rfl⟩
       have hkz:=HC3.out (i+m+1) hin
       rw[show i+m+1=i+1+m by omega,← hz2]at hkz
       have HZ:=hide hz2
       have hz8:=UInt8.toNat_lt z
       obtain⟨zn,hzn⟩:∃ zn,zn=z.toNat:=⟨_,rfl⟩
       rw[← hzn]at hkz hz8
       have HZN:=hide hzn
       obtain⟨j,hj⟩:∃ j,j=i+m:=⟨_,rfl⟩
       rw[show off2+(i+1+m)=off2+(j+1) by omega]at hkz
       rw[← hj]at hinI ⊢
       have HJ:=hide hj
       have hkq:(w3.drewN q).cell? ⟨b2,off2+(j+1),none⟩=some (.int .u8 (zn:Int)):=hkz
       clear hz2 hzn hj hkz
       by_cases hz0:zn=0
       ·subst hz0
        by_cases hm63:m<63
        ·have hmI:(m:Int)<63:=by omega
         have HM1:=hide (abJ hm (by rw[List.length_drop,← HNl.out];omega) (by rw[J3,← HZ.out];exact UInt8.toNat_inj.1 HZN.out.symm) hm63)
         go_wp2
         go_roundw
         case rel=>exact⟨m+1,by rw[HJ.out];go_num,by go_num,HM1.out,(Qt.refl w3).drewN _⟩
         case measure=>simp[intOf];omega
        ·have hmI:¬ (m:Int)<63:=by omega
         have HM1:=hide (ZC hm (.inr (.inr (by omega))))
         go_wp2_with fail
         refine (CW _ ((Ext.refl w3).drewN q)).mono ?_
         rintro e w5 ⟨rfl,ob5,hW5,hN5,hM5⟩
         obtain⟨x1,x2,x3,x4⟩:=HEx.out HM1.out w5 ob5 hN5 hM5
         clear CW hN5 hM5
         go_wp2
         go_roundw
         case rel=>exact⟨i+m+1,_,ob5,x1,by rw[HJ.out];go_num,hW5,x2,x3,x4⟩
         case measure=>have:=HJ.out;simp[intOf];omega
       ·have hzI:((zn:Int)==0)=false:=by simp;omega
        have HM1:=hide (ZC hm (.inr (.inl (by rw[J3,← HZ.out];exact fun e=>hz0 (by rw[HZN.out,e];rfl)))))
        go_wp2_with fail
        refine (CW _ ((Ext.refl w3).drewN q)).mono ?_
        rintro e w5 ⟨rfl,ob5,hW5,hN5,hM5⟩
        obtain⟨x1,x2,x3,x4⟩:=HEx.out HM1.out w5 ob5 hN5 hM5
        clear CW hN5 hM5
        go_wp2
        go_roundw
        case rel=>exact⟨i+m+1,_,ob5,x1,by rw[HJ.out];go_num,hW5,x2,x3,x4⟩
        case measure=>have:=HJ.out;simp[intOf];omega
      ·have hinI:¬ ((i+m:Nat):Int)+1<(N:Int):=by omega
       have HM1:=hide (ZC hm (.inl (by rw[List.length_drop,← HNl.out];omega)))
       go_wp2_with fail
       refine (CW _ ((Ext.refl w3).drewN q)).mono ?_
       rintro e w5 ⟨rfl,ob5,hW5,hN5,hM5⟩
       obtain⟨x1,x2,x3,x4⟩:=HEx.out HM1.out w5 ob5 hN5 hM5
       clear CW hN5 hM5
       go_wp2
       go_roundw
       case rel=>exact⟨i+m+1,_,ob5,x1,by go_num,hW5,x2,x3,x4⟩
       case measure=>simp[intOf];omega
    ·have yI:((y:Nat):Int) > 0:=by omega
     have HP2:=hide (HP.out.used (by rw[← HNl.out];exact hlt) (by rw[← HY.out];exact y0))
     rw[← HY.out]at HP2
     go_wp2
     go_roundw
     case rel=>exact⟨i+1,_,ob3,by omega,by go_num,HW3.out,hN4,HM4.out,HP2.out⟩
     case measure=>simp[intOf];omega
   ·obtain rfl:i=N:=by omega
    have hPa:=hP
    rw[HNl.out]at hPa
    have HA:=hide hPa.all
    clear hPa hP
    go_wp2
    go_ret
    rw[HE.out]
    refine⟨rfl,ob1,?_,hN1,hM⟩
    rw[← HA.out]
    exact hW
end
section
open Go.RowKit Len Can Huf
theorem qV:(Tryz.prog.info? 149).map (·.size)=some 2:=by kernel_rfl
theorem XA (A1:Option Addr)(n1 c1:Nat)(A2:Option Addr)(n2 c2:Nat):(#[.slice A1 n1 c1,.slice A2 n2 c2]:Array Value).all (·.oneCell')=true:=by
 simp
 exact⟨rfl,rfl⟩
set_option maxHeartbeats 1000000 in
set_option maxRecDepth 100000 in
theorem qW (A:Option Addr)(n c:Nat)(l:List UInt8)(w:World)(h:Bytes w w.heap.size A n l):Calls Tryz.prog 119 #[.slice A n c] w (UE w l):=by
 have hl:=h.1
 subst hl
 have hE1:=zb w (.cells #[.slice none 0 0,.slice none 0 0] 149)
 have hW1:=Whole.new w 149 #[.slice none 0 0,.slice none 0 0]
 have C1:=Uu A l.length c l _ (hE1.bytes h)
 cases hr:right l with
 | false =>
  have HN:=hide (yw hr)
  have HR:=hide hr
  rw[show yH l=([],7) by unfold yH;rw[hr];rfl]at C1
  clear h hr
  go_enter Tryz.func119,Tryz.ntmps119
  go_wp2_with fail
  refine C1.mono ?_
  rintro e w2 ⟨v,rfl,hO,hE2⟩
  obtain⟨A2,c2,rfl,_⟩:=hO.reads
  have hW2:=hW1.ext hE2
  clear C1 hO
  go_wp2_with (refine zh rfl 149 (.tmp 2) (.tmp 13) rfl rfl rfl hW2 rfl qV (XA ..) ?_;intro w5 hW5 hG5 _)
  refine bodyPost_ret (zH rfl _ rfl rfl (run_loadVar_row _ _ _ _ _ _ _ hW5 Tryz.underlying149 rfl qV)) rfl ?_
  have hE:=hE1.trans hE2
  exact⟨_,by rw[HN.out];rfl,(fun h=>by rw[HR.out]at h;cases h),fun _=>rfl,Below.grown hE hG5 hE.le (fun k hk=>by cases hk;exact Nat.le_refl _)⟩
 | true =>
  have HN:=hide (zU hr)
  have HR:=hide hr
  have hl300:=(zD hr).1
  rw[show yH l=(zW l,0) by unfold yH;rw[hr];rfl]at C1
  have HB:=hide (hE1.bytes h)
  clear h hr
  go_enter Tryz.func119,Tryz.ntmps119
  go_wp2_with fail
  refine C1.mono ?_
  rintro e w2 ⟨v,rfl,hO,hE2⟩
  have hO:=hO
  obtain⟨A2,c2,rfl,h2c,h2m,h2⟩:=hO.reads
  have HO:=hide hO
  have HL:=hide (codesL_len l)
  rw[HL.out]at h2 h2c
  have H2:=hide h2
  rw[HL.out]
  have hb2:=hE2.bytes HB.out
  have hE3:=zb w2 (.cells #[] 5)
  have hO3:=OwnB.empty w2 (base:=w2.heap.size) (Nat.le_refl _)
  have hb3:=hE3.bytes hb2
  have hW3:=(hW1.ext hE2).alloc (.cells #[] 5)
  have hlen:([]:List UInt8).length+l.length≤140737488355328:=by simp;omega
  have hlt1:w.heap.size<w2.heap.size:=by have:=hE2.le;rw[World.size_alloc]at this;omega
  have hne5:∀ u:Unit,Value.ownBlock (.slice (some ⟨w2.heap.size,0,none⟩) 0 0)≠some w.heap.size:=fun _=>by simp[Value.ownBlock];omega
  clear C1 hO h2 hb2
  go_wp2_with (first
   | (at_builtin;refine zw rfl (.tmp 15) (.tmp 16) rfl rfl hO3 rfl hb3 hlen hE3.le ?_;intro v5 w5 hO5 hG5;simp only[List.nil_append]at hO5;have hW5:=hW3.ownGrown hG5 (hne5 ());obtain⟨A5,c5,rfl,h5c,h5m,h5⟩:=hO5.form)
   | (refine zh rfl 149 (.tmp 2) (.tmp 19) rfl rfl rfl hW5 rfl qV (XA ..) ?_;intro w6 hW6 hG6 _))
  refine bodyPost_ret (zH rfl _ rfl rfl (run_loadVar_row _ _ _ _ _ _ _ hW6 Tryz.underlying149 rfl qV)) rfl ?_
  have hG5':(w2.alloc (.cells #[] 5)).grownBy w5 (some w2.heap.size):=hG5
  have hE:=hE1.trans hE2
  have hE5:Ext w w5:=Below.grown (hE.alloc (.cells #[] 5)) hG5' (hE.alloc (.cells #[] 5)).le (fun k hk=>by cases hk;omega)
  have hO6:=(Mod.ofRow (ob:=none) hG6).own hO5 (fun e=>by have:=(hO5.lt _ e).1;omega) (by cases Value.ownBlock (.slice A5 l.length c5)<;>simp)
  have hH:=HO.out
  have hHl:=hH.lt
  rw[World.size_alloc]at hHl
  have hH6:=World.ownsRow.kept (World.ownsRow.kept (hH.ext hE3) hG5' (by
   cases hv:Value.ownBlock (.slice A2 (zW l).length c2) with
   | none=>simp
   | some k=>have:=(hHl k hv).2;simp;omega)) hG6 (by
   cases hv:Value.ownBlock (.slice A2 (zW l).length c2) with
   | none=>simp
   | some k=>have:=(hHl k hv).1;simp;omega)
  refine⟨_,by rw[HN.out];rfl,fun _=>?_,(fun h=>by rw[HR.out]at h;cases h),Below.grown hE5 hG6 hE5.le (fun k hk=>by cases hk;exact Nat.le_refl _)⟩
  have hH6':OwnH w6 w.heap.size (.slice A2 (zW l).length c2) (zW l):=OwnH.mono hH6 (by rw[World.size_alloc];omega)
  rw[HL.out]at hH6'
  have hO6':OwnB w6 w.heap.size (.slice A5 l.length c5) l:=⟨hO6.1,hO6.2.imp_right fun ⟨g,cap,cur,e,hg,r⟩=>⟨g,cap,cur,e,by omega,r⟩⟩
  exact⟨_,_,_,_,rfl,hO6',hH6',fun k hk=>(hO6'.lt k hk).2,fun k hk=>(hH6'.lt k hk).2⟩
theorem Huf.put_bad {l:List UInt8}{s:Int}(h:fine l s=false):X0 l s=13:=by unfold X0;rw[h];rfl
theorem Huf.put_fine {l:List UInt8}{s:Int}(h:fine l s=true):X0 l s=0:=by unfold X0;rw[if_pos h]
def Huf.putX (l:List UInt8)(s:Int):List Bool:=if fine l s then XZ l s else []
set_option maxHeartbeats 2000000 in
set_option maxRecDepth 100000 in
theorem x9 {w:World}{base g:Nat}{ob:Option Nat}{B:List Bool}{v:Value}{l:List UInt8}(hv:acU w w.heap.size v l)(hr:right l=true)(h:RefW w base g ob (B.map yX))(s:Int)(hB:B.length≤800000000) :
  Calls Tryz.prog 121 #[v,.pointer (some ⟨g,0,none⟩),.int .i64 s] w (jr w base g ob ((B++putX l s).map yX) (X0 l s)):=by
 obtain⟨A1,c1,A2,c2,rfl,h1c,h1m,h1,h2⟩:=hv
 have hE1:=zb w (.cells #[.slice A1 l.length c1,.slice A2 l.length c2] 149)
 have hW1:=Whole.new w 149 #[.slice A1 l.length c1,.slice A2 l.length c2]
 have d0:(w.alloc (.cells #[.slice A1 l.length c1,.slice A2 l.length c2] 149)).cell? ⟨w.heap.size,0,none⟩=some (.slice A1 l.length c1):=hW1.at 0 rfl
 have d1:(w.alloc (.cells #[.slice A1 l.length c1,.slice A2 l.length c2] 149)).cell? ⟨w.heap.size,1,none⟩=some (.slice A2 l.length c2):=hW1.at 1 rfl
 obtain⟨h300,h15,_⟩:=zD hr
 have hbase:=Nat.le_trans h.le (Nat.le_of_lt h.lt)
 have H:=hide h
 have stay:∀ e:Int,e=13→fine l s=false→jr w base g ob ((B++putX l s).map yX) (X0 l s) (.returned (.int .i64 e)) (w.alloc (.cells #[.slice A1 l.length c1,.slice A2 l.length c2] 149)):=fun e he hf=>by
  subst he
  refine⟨by rw[Huf.put_bad hf],ob,?_,.inl rfl,Mod.ofExt hE1⟩
  unfold putX
  rw[hf,if_neg (by simp),List.append_nil]
  exact H.out.ext hE1
 have HStay:=hide stay
 clear stay h
 obtain⟨G,hG⟩:∃ G,G=(B++putX l s).map yX:=⟨_,rfl⟩
 rw[← hG]at HStay ⊢
 have HG:=hide hG
 clear hG
 by_cases h0:s<0
 ·have hf:fine l s=false:=decide_eq_false (by omega)
  have HK:=hide (HStay.out 13 rfl hf)
  clear HStay hf hW1
  go_enter Tryz.func121,Tryz.ntmps121
  go_wp2
  go_ret
  exact HK.out
 obtain⟨k,rfl⟩:=Int.eq_ofNat_of_zero_le (show 0≤s by omega)
 by_cases hk:k<l.length
 ·have hkI:(k:Int)<(l.length:Int):=by omega
  rcases h1.2 with hn | ⟨b1,o1,rfl,hb1,hc1⟩
  ·omega
  rcases h2.2 with hn | ⟨b2,o2,rfl,hb2,hc2⟩
  ·omega
  have e1:(w.alloc (.cells #[.slice (some ⟨b1,o1,none⟩) l.length c1,.slice (some ⟨b2,o2,none⟩) l.length c2] 149)).cell? ⟨b1,o1+k,none⟩=some (.int .u8 ((zg l k:Nat):Int)):=(hE1.cell (i:=o1+k) (by omega)).trans (hc1 k hk)
  have e2:(w.alloc (.cells #[.slice (some ⟨b1,o1,none⟩) l.length c1,.slice (some ⟨b2,o2,none⟩) l.length c2] 149)).cell? ⟨b2,o2+k,none⟩=some (.int .u16 ((word l k:Nat):Int)):=by
   rw[hE1.cell (i:=o2+k) (by omega),hc2 k hk,codesL_at hk]
  have hy15:=h15 k hk
  by_cases y0:zg l k=0
  ·have hf:fine l (k:Int)=false:=decide_eq_false (by rw[Int.toNat_natCast];omega)
   have HK:=hide (HStay.out 13 rfl hf)
   rw[y0]at e1
   change World.cell? _ ⟨b1,o1+k,none⟩=some (.int .u8 0) at e1
   clear HStay hf hW1 hc1 hc2 h1 h2 e2 y0 hy15
   go_enter Tryz.func121,Tryz.ntmps121
   go_wp2
   go_ret
   exact HK.out
  ·have hf:fine l (k:Int)=true:=decide_eq_true (by rw[Int.toNat_natCast];omega)
   have hw:=VK hr hk y0
   have hwl:=Yr hr hk
   have CP:=fun W (hW:RefW W base g ob (B.map yX))=>xI hW (word l k) ((zg l k:Nat):Int) (by omega) (by simp;omega)
   have hg:=Bit.put_good (x:=word l k) (n:=((zg l k:Nat):Int)) (decide_eq_true ⟨by omega,by omega,by rw[Int.toNat_natCast];exact hw⟩)
   simp only[hg.1,hg.2,Int.toNat_natCast]at CP
   have HX:=hide (show putX l (k:Int)=Bit.num (word l k) (zg l k) by unfold putX;rw[if_pos hf];unfold XZ;rw[Int.toNat_natCast])
   have HE:=hide (Huf.put_fine hf)
   have hyb:((zg l k:Int)==0)=false:=by rw[beq_eq_false_iff_ne];omega
   clear HStay hf hW1 hc1 hc2 h1 h2 hg
   generalize word l k=x at *
   generalize zg l k=y at *
   go_enter Tryz.func121,Tryz.ntmps121
   go_wp2_with fail
   generalize w.alloc (.cells #[.slice (some ⟨b1,o1,none⟩) l.length c1,.slice (some ⟨b2,o2,none⟩) l.length c2] 149)=w1 at *
   go_still_tail 13,(by kernel_rfl)
   change wpList _ _ _ _ _ (World.drew _)
   go_wp2_with fail
   refine (CP _ (H.out.ext hE1.drew)).mono ?_
   rintro e w2 ⟨rfl,ob2,hR2,hN2,hM2⟩
   go_wp2
   go_ret
   refine⟨zi HE.out.symm,ob2,?_,(NewOb.same w ob).trans hE1.le hN2,(Mod.ofExt hE1.drew).trans hM2 (.inl rfl)⟩
   rw[HG.out,HX.out,List.map_append]
   exact hR2
 ·have hf:fine l (k:Int)=false:=decide_eq_false (by omega)
  have hkI:¬ (k:Int)<(l.length:Int):=by omega
  have HK:=hide (HStay.out 13 rfl hf)
  clear HStay hf hW1
  go_enter Tryz.func121,Tryz.ntmps121
  go_wp2
  go_ret
  exact HK.out
end
section
open Go.RowKit Len Can Huf
def ac4 (w:World)(r:List Bool×Int)(e:Ending)(w':World):Prop :=
 ∃ v l,e=.returned (.tuple #[v,.int .i64 r.2])∧OwnB w' w.heap.size v l∧(r.2=0→Bit.Packs l r.1)∧(r.2≠0→l=[])∧Ext w w'
theorem Huf.putB_le {l:List UInt8}{s:Int}(hr:right l=true)(h:fine l s=true):(XZ l s).length≤15:=by
 obtain⟨h0,h1,h2⟩:=of_decide_eq_true h
 unfold XZ
 rw[Bit.num_length]
 exact (zD hr).2.1 _ (by omega)
end
section
open Go.RowKit Len Can
theorem Can.head_le (x:UInt8)(r:List UInt8):1≤headM x r∧headM x r≤r.length+1∧headM x r≤64:=by
 have:=jt 63 r
 unfold headM
 split<;>omega
theorem Can.wbits_head (x:UInt8)(r:List UInt8):wbits (x::r)=itemB x.toNat (headM x r)++wbits ((x::r).drop (headM x r)):=by
 by_cases h:x=0
 ·subst h
  have e:headM 0 r=zrun 63 r+1:=if_pos rfl
  rw[jY,e,List.drop_succ_cons,Nat.add_comm]
  unfold itemB
  rw[show UInt8.toNat 0=0 from rfl,if_pos rfl,Nat.add_comm 1,Nat.add_sub_cancel,List.append_assoc]
 ·have e:headM x r=1:=if_neg h
  have hx:x.toNat≠0:=fun e=>h (UInt8.toNat_inj.1 e)
  rw[jX r h,e]
  unfold itemB
  rw[if_neg hx,List.append_nil]
  rfl
def Can.sliceLen:Value→Nat
 | .slice _ n _=>n
 | _=>0
attribute [local go_sem ↓] Ym
set_option maxHeartbeats 1000000 in
set_option maxRecDepth 100000 in
theorem aaa {t:TypeId}{R:List Value}(l:List UInt8)(A:Option Addr)(n c:Nat)(W:World)(base g:Nat)(ob:Option Nat)(B:List Bool)(hn:n≤c)(hc:c≤maxLen)(hb:∀ W',Mod W W' g ob→Bytes W' W'.heap.size A n l)(hW:WrtX t R W base g ob B)(hB:B.length≤100000) :
  Calls Tryz.prog 170 #[.pointer (some ⟨g,0,none⟩),.slice A n c] W (aaH t R W base g ob (B++if right l then wbits l else []) (checkE l)):=by
 have hl:=(hb W (Mod.refl _ _ _)).1
 subst hl
 have C:=abk A l.length c l W (hb W (Mod.refl _ _ _))
 have hne:=hW.ne
 cases hr:right l with
 | false =>
  rw[yw hr]at C ⊢
  go_enter Tryz.func170,Tryz.ntmps170
  go_wp2_with fail
  refine C.mono ?_
  rintro e w2 ⟨rfl,hE2⟩
  go_wp2
  go_ret
  refine⟨rfl,ob,?_,.inl rfl,Mod.ofExt hE2⟩
  have:=hW.ext hE2
  simpa using this
 | true =>
  rw[zU hr]at C ⊢
  obtain⟨h300,h15,_⟩:=zD hr
  have HAll:=hide (show ∀ x,x∈l→x.toNat≤15 from fun x hx=>by
   obtain⟨i,hi,rfl⟩:=List.mem_iff_getElem.1 hx
   have:=h15 i hi
   unfold zg at this
   rwa [List.getD_eq_getElem?_getD,List.getElem?_eq_getElem hi]at this)
  have hWL:=yP l
  rw[if_pos rfl]
  have hG:B++wbits l=B++wbits l:=rfl
  obtain⟨G,hGe⟩:∃ G,G=B++wbits l:=⟨_,rfl⟩
  rw[← hGe]
  have HG:=hide hGe
  have hGl:G.length≤200000:=by rw[hGe,List.length_append];omega
  have hbase:=hW.bound
  have hbg:=hW.le
  have HOb:=hide (show ∀ k,ob=some k→base≤k from fun k hk=>(hW.ob k hk).1)
  have HW:=hide hW
  have HB:=hide hb
  clear hG hGe hr h15 hWL hb hW hB
  go_enter Tryz.func170,Tryz.ntmps170
  go_wp2_with fail
  refine C.mono ?_
  rintro e w2 ⟨rfl,hE2⟩
  clear C
  go_wp2_with fail
  go_loopw [1] (fun a wr=>∃ A' c' suf ob' B',a=.slice A' suf.length c'∧suf.length≤c'∧c'≤maxLen∧suf.length≤300∧(∀ x,x∈suf→x.toNat≤15)∧(∀ W',Mod W W' g ob→Bytes W' W'.heap.size A' suf.length suf)∧WrtX t R wr base g ob' B'∧G=B'++wbits suf∧NewOb W ob ob'∧Mod W wr g ob) (fun a _=>sliceLen a)
  case atStart=>exact⟨A,c,l,ob,B,rfl,hn,hc,h300,HAll.out,HB.out,HW.out.ext hE2,HG.out,.inl rfl,Mod.ofExt hE2⟩
  case round =>
   clear HAll HB HW hE2 HG
   obtain⟨A',c',suf,ob',B',rfl,hn',hc',hs3,hall,hb',hW',hG',hN,hM⟩:=hrel
   cases suf with
   | nil =>
    rw[Zt,List.append_nil]at hG'
    have HG:=hide hG'
    have hnl:([]:List UInt8).length=0:=rfl
    rw[hnl]at hb' ⊢
    clear hG' hall
    go_wp2
    go_ret
    refine⟨rfl,ob',?_,hN,hM⟩
    rw[HG.out]
    exact hW'
   | cons x r =>
    have hx15:=hall x (List.mem_cons_self ..)
    have hhd:=head_le x r
    have hlr:(x::r).length=r.length+1:=rfl
    have HAll:=hide (show ∀ y,y∈(x::r).drop (headM x r)→y.toNat≤15 from fun y hy=>hall y (List.mem_of_mem_drop hy))
    have HG:=hide hG'
    rw[wbits_head x r,← List.append_assoc]at hG'
    have HG2:=hide hG'
    have hBl:B'.length≤200000:=by
     have:=congrArg List.length HG.out
     rw[List.length_append]at this
     omega
    have hbr:=hb' wr hM
    have C1:=QX A' (x::r).length c' x r wr (by omega) hbr
    have HDrop:=hide (fun W' hM'=>(hb' W' hM').drop (k:=headM x r) (c:=c') (by omega) hn')
    have hxr:(x::r).length≤301:=by omega
    have HX0:=hide (show x.toNat=0→1≤headM x r∧headM x r≤64 from fun _=>⟨hhd.1,hhd.2.2⟩)
    have HLd:=hide (show ((x::r).drop (headM x r)).length=(x::r).length-headM x r from List.length_drop)
    have hm1:=hhd.1
    have hm2:headM x r≤(x::r).length:=hhd.2.1
    have hpos:0<(x::r).length:=by omega
    clear hall hG' hhd hlr hbr hb' HG
    generalize headM x r=m at *
    obtain⟨N,hNe⟩:∃ N,N=(x::r).length:=⟨_,rfl⟩
    rw[← hNe]at hn' hs3 C1 hxr hm2 hpos HDrop HLd ⊢
    have HNe:=hide hNe
    clear hNe
    generalize x.toNat=xv at *
    have hposI:(0:Int)<(N:Int):=by omega
    go_wp2_with fail
    refine C1.mono ?_
    rintro e w3 ⟨rfl,hE3⟩
    clear C1
    have hM3:=Whole.new w3 240 (itemV 0 0)
    have hinf:(Tryz.prog.info? 240).map (·.size)=some (itemV xv m).size:=y6
    have hone:=itemV_one xv m
    have hE4:=hE3.alloc (.cells (itemV 0 0) 240)
    have CW:=fun (w:World) (base g:Nat) (ob:Option Nat) (B:List Bool) (h:WrtX t R w base g ob B) (hfit:B.length≤800000000)=>X4 xv m (by omega) HX0.out h hfit
    obtain⟨V,hV⟩:∃ V,V=itemV xv m:=⟨_,rfl⟩
    have HV1:=hide (show V[1]?=some (.int .i64 (m:Int)) by rw[hV];rfl)
    have hss:V.size=2:=by rw[hV];rfl
    rw[← hV]at hinf hone CW ⊢
    clear hV
    unfold itemV at hM3 hE4
    go_wp2_with (first
     | (refine zh rfl 240 (.tmp 6) (.tmp 18) rfl rfl rfl hM3 hss hinf hone ?_;intro w5 hW5 hG5 hS5;clear hS5)
     | (refine wpList_load_row rfl 240 (.tmp 6) rfl _ rfl _ _ _ _ hW5 Tryz.underlying240 rfl hinf ?_))
    have hwl:=hW'.lt
    have hwo:=hW'.ob
    have hwn:=hW'.ne
    have hE5:Ext wr w5:=Below.grown hE4 hG5 hE4.le (fun k hk=>by cases hk;exact hE3.le)
    have hW6:=hW'.ext hE5
    have hle3:=hE3.le
    clear hM3 hE4 hG5 hE3
    refine (CW w5 base g ob' B' hW6 (by omega)).mono ?_
    rintro e w6 ⟨rfl,ob6,hW7,hN7,hM7⟩
    have hV6:=hM7.whole hW5 (by omega) (fun e=>by have:=(hwo _ e).2;omega)
    have c1:=hV6.at 1 HV1.out
    have hMf:=hM.trans ((Mod.ofExt (g:=g) (ob:=ob') hE5).trans hM7 (.inl rfl)) hN
    have hNf:=hN.trans hM.size ((NewOb.same wr ob').trans hE5.le hN7)
    clear CW hW5 hW6 hM7 hN7 hE5 hV6 hW' hM hN
    have hmI0:(0:Int)≤(m:Int):=by omega
    have hmI1:(m:Int)≤(N:Int):=by omega
    go_wp2
    go_roundw
    case rel=>exact⟨zQ A' c' m,c'-m,(x::r).drop m,ob6,_,by rw[HLd.out],by rw[HLd.out];omega,by omega,by rw[HLd.out];omega,HAll.out,by rw[HLd.out];exact HDrop.out,hW7,HG2.out,hNf,hMf⟩
    case measure=>simp only[sliceLen];omega
end
section
open Go.RowKit Len Can Huf
abbrev ac5:=World→Nat→Nat→Nat→List UInt8→Prop
structure CodKeep (CP:ac5):Prop where
 le:∀ {W lo hi g l},CP W lo hi g l→hi≤W.heap.size∧g<hi
 keep:∀ {W W' lo hi g l},CP W lo hi g l→(∀ k,lo≤k→k<hi→W'.heap[k]?=W.heap[k]?)→W.heap.size≤W'.heap.size→CP W' lo hi g l
theorem CodKeep.below {CP:ac5}(h:CodKeep CP){W W':World}{lo hi g B:Nat}{l:List UInt8}(hc:CP W lo hi g l)(hb:Below B W W')(hB:hi≤B):CP W' lo hi g l :=
 h.keep hc (fun k _ hk=>hb.block k (by omega)) hb.size
theorem CodKeep.ext {CP:ac5}(h:CodKeep CP){W W':World}{lo hi g:Nat}{l:List UInt8}(hc:CP W lo hi g l)(hE:Ext W W'):CP W' lo hi g l:=h.below hc hE (h.le hc).1
theorem CodKeep.mod {CP:ac5}(h:CodKeep CP){W W':World}{lo hi g gw:Nat}{ob:Option Nat}{l:List UInt8}(hc:CP W lo hi g l)(hM:Mod W W' gw ob)(hg:gw<lo∨hi≤gw)(ho:∀ k,ob=some k→k<lo∨hi≤k):CP W' lo hi g l :=
 h.keep hc (fun k h1 h2=>hM.block k (by have:=(h.le hc).1;omega) (by omega) (fun e=>by have:=ho k e.symm;omega)) hM.size
def aek (CP:ac5)(W:World)(l:List UInt8)(e:Ending)(w':World):Prop :=
 (right l=true→∃ g,e=.returned (.tuple #[.pointer (some ⟨g,0,none⟩),.int .i64 0])∧CP w' W.heap.size w'.heap.size g l)∧(right l=false→e=.returned (.tuple #[.pointer none,.int .i64 7]))∧Ext W w'
end
section
open Go.RowKit Len Can Huf
def CodR (W:World)(lo hi g:Nat)(l:List UInt8):Prop :=
 lo≤g∧g<hi∧hi≤W.heap.size∧∃ A1 c1 A2 c2 A3 c3 A4 c4 O,Whole W g 218 #[.slice A1 l.length c1,.slice A2 l.length c2,.slice A3 O.length c3,.slice A4 O.length c4]∧Tabs W lo hi A1 A2 A3 A4 l O
theorem CodR.keeps:CodKeep CodR where
 le:=fun h=>⟨h.2.2.1,h.2.1⟩
 keep:=fun {W W' lo hi g l} ⟨h1,h2,h3,A1,c1,A2,c2,A3,c3,A4,c4,O,hW,hT⟩ hk hs=>by
  have cell:∀ {b i:Nat} {v:Value},W.cell? ⟨b,i,none⟩=some v→lo≤b→b<hi→W'.cell? ⟨b,i,none⟩=some v:=fun hc h1 h2=>(World.cell?_of_block (a:=⟨_,_,none⟩) (hk _ h1 h2)).trans hc
  refine⟨h1,h2,Nat.le_trans h3 hs,A1,c1,A2,c2,A3,c3,A4,c4,O,(hk g h1 h2).trans hW,⟨⟨hT.lens.1,?_⟩,⟨hT.words.1,?_⟩,⟨hT.syms.1,?_⟩,⟨hT.starts.1,?_⟩,hT.ord,hT.low1,hT.low2,hT.low3,hT.low4⟩⟩
  ·exact hT.lens.2.imp_right fun ⟨b,o,hA,hB,hc⟩=>⟨b,o,hA,hB,fun i hi=>cell (hc i hi) (hT.low1 b o hA) hB⟩
  ·exact hT.words.2.imp_right fun ⟨b,o,hA,hB,hc⟩=>⟨b,o,hA,hB,fun i hi=>cell (hc i hi) (hT.low2 b o hA) hB⟩
  ·exact hT.syms.2.imp_right fun ⟨b,o,hA,hB,hc⟩=>⟨b,o,hA,hB,fun i hi=>cell (hc i hi) (hT.low3 b o hA) hB⟩
  ·exact hT.starts.2.imp_right fun ⟨b,o,hA,hB,hc⟩=>⟨b,o,hA,hB,fun i hi=>cell (hc i hi) (hT.low4 b o hA) hB⟩
theorem CodR.tab {W:World}{lo hi g:Nat}{l:List UInt8}(h:CodR W lo hi g l):aei W hi g l:=by
 obtain⟨_,_,_,A1,c1,A2,c2,A3,c3,A4,c4,O,hW,hT⟩:=h
 exact⟨A1,c1,A2,c2,A3,c3,A4,c4,O,hW.at 0 rfl,hW.at 1 rfl,hW.at 2 rfl,hW.at 3 rfl,hT.lens,hT.words,hT.syms,hT.starts,hT.ord⟩
theorem Tabs.ext {w w':World}{lo hi:Nat}{A1 A2 A3 A4:Option Addr}{l:List UInt8}{O:List Nat}(h:Tabs w lo hi A1 A2 A3 A4 l O)(hE:Below hi w w'){hi':Nat}(hh:hi≤hi'):Tabs w' lo hi' A1 A2 A3 A4 l O :=
 ⟨(h.lens.below hE (Nat.le_refl _)).mono hh,(h.words.below hE (Nat.le_refl _)).mono hh,VO (h.syms.below hE (Nat.le_refl _)) hh,(h.starts.below hE (Nat.le_refl _)).mono hh,h.ord,h.low1,h.low2,h.low3,h.low4⟩
set_option maxHeartbeats 1000000 in
set_option maxRecDepth 100000 in
theorem aab (A:Option Addr)(n c:Nat)(l:List UInt8)(w:World)(hc:n≤c)(h:Bytes w w.heap.size A n l):Calls Tryz.prog 171 #[.slice A n c] w (aek CodR w l):=by
 have C:=JK A n c l w hc h
 cases hr:right l with
 | false =>
  have HR:=hide hr
  clear hr h
  go_enter Tryz.func171,Tryz.ntmps171
  go_wp2_with fail
  refine C.mono ?_
  rintro e w2 ⟨_,hno,hE⟩
  obtain rfl:=hno HR.out
  have hW:=Whole.new w2 216 #[.slice none 0 0,.slice none 0 0,.slice none 0 0,.slice none 0 0]
  have hE2:=hE.alloc (.cells #[.slice none 0 0,.slice none 0 0,.slice none 0 0,.slice none 0 0] 216)
  have hle:=hE.le
  clear C hno
  go_wp2_with (refine zh rfl 216 (.tmp 4) (.tmp 9) rfl rfl rfl hW rfl xz (xT ..) ?_;intro w5 hW5 hG5 hS5;clear hS5)
  go_ret2
  exact⟨(fun h=>by rw[HR.out]at h;cases h),fun _=>rfl,Below.grown hE2 hG5 hE2.le (fun k hk=>by cases hk;exact hle)⟩
 | true =>
  have HR:=hide hr
  clear hr h
  go_enter Tryz.func171,Tryz.ntmps171
  go_wp2_with fail
  refine C.mono ?_
  rintro e w2 ⟨hyes,_,hE⟩
  obtain⟨A1,c1,A2,c2,A3,c3,A4,c4,O,rfl,hT⟩:=hyes HR.out
  have hW:=Whole.new w2 216 #[.slice none 0 0,.slice none 0 0,.slice none 0 0,.slice none 0 0]
  have hE2:=hE.alloc (.cells #[.slice none 0 0,.slice none 0 0,.slice none 0 0,.slice none 0 0] 216)
  have hT2:=hT.ext (zb w2 (.cells #[.slice none 0 0,.slice none 0 0,.slice none 0 0,.slice none 0 0] 216)) (Nat.le_refl _)
  have HT:=hide hT2
  have hle:=hE.le
  clear C hyes hT hT2
  go_wp2_with (first
   | (refine zh rfl 216 (.tmp 4) (.tmp 9) rfl rfl rfl hW rfl xz (xT ..) ?_;intro w5 hW5 hG5 hS5;clear hS5)
   | (refine wpList_load_row rfl 216 (.tmp 4) rfl _ rfl _ _ _ _ hW5 Tryz.underlying216 rfl xz ?_))
  go_ret2
  have hB5:Below w2.heap.size (w2.alloc (.cells #[.slice none 0 0,.slice none 0 0,.slice none 0 0,.slice none 0 0] 216)) w5:=Below.grown (Below.refl _ _) hG5 (by simp) (fun k hk=>by cases hk;exact Nat.le_refl _)
  have hF5:Ext w w5:=Below.grown hE2 hG5 hE2.le (fun k hk=>by cases hk;exact hle)
  have hsz:=hG5.size
  rw[World.size_alloc]at hsz
  have hT5:=HT.out.ext hB5 (hi':=w2.heap.size) (Nat.le_refl _)
  have hT6:=hT5.ext (Below.mono (zb w5 (.cells #[.slice A1 l.length c1,.slice A2 l.length c2,.slice A3 O.length c3,.slice A4 O.length c4] 218)) (by omega)) (hi':=w5.heap.size+1) (by omega)
  refine⟨fun _=>⟨w5.heap.size,rfl,by omega,by simp,Nat.le_refl _,A1,c1,A2,c2,A3,c3,A4,c4,O,Whole.new w5 _ _,?_⟩,(fun h=>by rw[HR.out]at h;cases h),hF5.alloc _⟩
  rw[World.size_alloc]
  exact hT6
set_option maxHeartbeats 1000000 in
set_option maxRecDepth 100000 in
theorem qf {t:TypeId}{R:List Value}{w:World}{lo hi g gw base:Nat}{ob:Option Nat}{B:List Bool}{l:List UInt8}(h:CodR w lo hi g l)(hr:right l=true)(hw:WrtX t R w base gw ob B)(hB:B.length≤800000000)(s:Int) :
  Calls Tryz.prog 156 #[.pointer (some ⟨g,0,none⟩),.pointer (some ⟨gw,0,none⟩),.int .i64 s] w (aaH t R w base gw ob (B++putX l s) (X0 l s)):=by
 obtain⟨A1,c1,A2,c2,A3,c3,A4,c4,O,e1,e2,_,_,h1,h2,_⟩:=h.tab
 have CL:=fun W (hE:Ext w W)=>ZX (w:=W) ((hE.cell (World.block_lt_of_cell? w _ e1)).trans e1) (h1.below hE h.2.2.1) s
 cases hf:fine l s with
 | false =>
  rw[(lenX_fine l s).2 hf]at CL
  have HX:=hide (show putX l s=[] by unfold putX;rw[hf];rfl)
  have HP:=hide (put_bad hf)
  have HW:=hide hw
  have CL0:=CL w (Ext.refl w)
  clear h hr hw h1 h2 CL hf
  go_enter Tryz.func156,Tryz.ntmps156
  go_wp2_with fail
  refine CL0.mono ?_
  rintro e w' ⟨rfl,rfl⟩
  go_wp2
  go_ret
  exact⟨zi HP.out.symm,ob,by rw[HX.out,List.append_nil];exact HW.out,.inl rfl,Mod.refl _ _ _⟩
 | true =>
  obtain⟨k0,k1,k2⟩:=of_decide_eq_true hf
  obtain⟨k,rfl⟩:=Int.eq_ofNat_of_zero_le k0
  rw[Int.toNat_natCast]at k2
  have hkl:k<l.length:=by omega
  rw[lenX_at hkl]at CL
  obtain⟨_,h15,_⟩:=zD hr
  have hy15:=h15 k hkl
  rcases h2.2 with hn | ⟨b2,o2,rfl,hb2,hc2⟩
  ·omega
  have e3:=hc2 k hkl
  rw[codesL_at hkl]at e3
  have hwf:=VK hr hkl k2
  have hwl:=Yr hr hkl
  have HX:=hide (show putX l (k:Int)=Bit.num (word l k) (zg l k) by unfold putX;rw[if_pos hf];unfold XZ;rw[Int.toNat_natCast])
  have HP:=hide (put_fine hf)
  have CP:=fun W (hW:WrtX t R W base gw ob B)=>jq hW (word l k) ((zg l k:Nat):Int) (by omega)
  have hg:=Bit.put_good (x:=word l k) (n:=((zg l k:Nat):Int)) (decide_eq_true ⟨by omega,by omega,by rw[Int.toNat_natCast];exact hwf⟩)
  simp only[hg.1,hg.2,Int.toNat_natCast]at CP
  have HW:=hide hw
  have hyb:((zg l k:Int)==0)=false:=by rw[beq_eq_false_iff_ne];omega
  have CL0:=CL w (Ext.refl w)
  have CL1:=CL w.drew (Ext.refl w).drew
  clear h hr hw h1 h2 CL hf hg hwf hc2 h15
  generalize word l k=x at *
  generalize zg l k=y at *
  go_enter Tryz.func156,Tryz.ntmps156
  go_wp2_with fail
  refine CL0.mono ?_
  rintro e w' ⟨rfl,rfl⟩
  clear CL0
  go_wp2_with fail
  refine wp_region_still_tail 15 (by kernel_rfl) (by kernel_rfl) ?_
  simp only[List.take_succ_cons,List.take_zero,List.drop_succ_cons,List.drop_zero]
  repeat still_step
  still_call (CL1.mono fun _ _ ⟨h1,h2⟩=>⟨h1,h2.symm⟩)
  repeat still_step
  try refine wpStill_nil ?_
  change wpList _ _ _ _ _ (World.drew _)
  go_wp2_with fail
  refine (CP _ (HW.out.ext (Ext.refl w).drew)).mono ?_
  rintro e w2 ⟨rfl,ob2,hW2,hN2,hM2⟩
  go_wp2
  go_ret
  exact⟨zi HP.out.symm,ob2,by rw[HX.out];exact hW2,hN2,(Mod.ofExt (Ext.refl w).drew).trans hM2 (.inl rfl)⟩
end
end Go.Proofs.YtpmedpdjglcdpaaGreatDoor
