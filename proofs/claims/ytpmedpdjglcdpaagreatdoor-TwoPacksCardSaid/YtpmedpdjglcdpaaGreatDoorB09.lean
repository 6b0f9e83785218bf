/- The contract of the library's slices.Clone at bytes. Contracts of the row of bits: number and zerosFrom. The document's Kraft of chapter 7. The document's Check of chapter 8. The document's functions of chapter 16: Find, Begins, Range, Alik -/
import Derived.Test.YtpmedpdjglcdpaaGreatDoorB02
import Derived.Test.YtpmedpdjglcdpaaGreatDoorB05
import Derived.Test.YtpmedpdjglcdpaaGreatDoorB06
import Derived.Deep.QuietTactic
import Derived.BigQuiet
import Derived.Lib.SliceRun
import Derived.OwnWalk
import Derived.Laws.OwnMore
import Derived.Maps.AppendAt
namespace Go.Proofs.YtpmedpdjglcdpaaGreatDoor
section
open Go.RowKit
set_option maxHeartbeats 1000000 in
theorem Yd (A:Option Addr)(n c:Nat)(l:List UInt8)(w:World)(hc:n≤c)(hn:n≤140737488355328)(hb:Bytes w w.heap.size A n l) :
  Calls Tryz.prog 159 #[.slice A n c] w (zt w l):=by
 have hnil:=fun (W:World) (a:Option Addr) (n c n' c':Nat)=>Lib.run_eql_slice_nil (P:=Tryz.prog) W 29 5 a n c n' c' Tryz.underlying29
 rcases A with _|ad
 ·have hl:l=[]:=by
   rcases hb.2 with h0 | ⟨_,_,h,_⟩
   ·exact List.eq_nil_of_length_eq_zero (by rw[hb.1,h0])
   ·cases h
  subst hl
  have hn0:n=0:=hb.1.symm
  subst hn0
  go_enter Tryz.func159,Tryz.ntmps159
  go_wp2
  go_ret
  exact⟨_,rfl,OwnB.nil _ _,Ext.refl _⟩
 ·have ho:=OwnB.empty w (Nat.le_refl _)
  have hb':=(zb w (.cells #[] 5)).bytes hb
  have hB:w.heap.size≤(w.alloc (.cells #[] 5)).heap.size:=by simp
  have hl0:([]:List UInt8).length+n≤140737488355328:=by simpa using hn
  have hE:=zb w (.cells #[] 5)
  go_enter Tryz.func159,Tryz.ntmps159
  go_wp2_with (at_builtin;refine zw rfl (.tmp 5) (.tmp 6) rfl rfl ho rfl hb' hl0 hB ?_;intro v1 w1 hown1 hg1)
  go_ret
  exact⟨v1,rfl,hown1,ho.below hE hg1 hB⟩
end
section
open Go.RowKit Len
theorem Jx (l:List UInt8):∀ n,yg l n≤n*32768
 | 0=>by simp[yg,zm]
 | n+1=>by
  have:=Jx l n
  unfold yg at *
  rw[zm]
  have h:(if (l.getD n 0).toNat=0 then 0 else 2 ^ (15-(l.getD n 0).toNat))≤2 ^ 15:=by
   split
   ·omega
   ·exact Nat.pow_le_pow_right (by omega) (by omega)
  omega
def QM (k:IntKind)(w:World)(r:Nat×Int)(e:Ending)(w':World):Prop:=e=.returned (.tuple #[.int k ((r.1:Nat):Int),.int .i64 r.2])∧Ext w w'
set_option maxHeartbeats 2000000 in
set_option maxRecDepth 100000 in
theorem Ur (A:Option Addr)(n c:Nat)(l:List UInt8)(w:World)(h:Bytes w w.heap.size A n l):Calls Tryz.prog 168 #[.slice A n c] w (QM .i64 w (yL l)):=by
 have hl:=h.1
 subst hl
 by_cases h300:(300:Int)<(l.length:Int)
 ·have HN:=hide (show yL l=(0,13) from if_neg (by omega))
  clear h
  go_enter Tryz.func168,Tryz.ntmps168
  go_wp2
  go_ret2
  rw[HN.out]
  exact⟨rfl,Ext.refl _⟩
 ·have HBad:=hide (show ∀ i,i<l.length→15<(l.getD i 0).toNat→yL l=(0,13) from fun i hi hb=>if_neg (fun h=>by have:=h.2 i hi;omega))
  have HOk:=hide (show (∀ i,i<l.length→(l.getD i 0).toNat≤15)→yL l=(yg l l.length,0) from fun h=>if_pos ⟨by omega,h⟩)
  have HK:=hide (Jx l)
  have HS:=hide (show ∀ i,yg l (i+1)=yg l i+if (l.getD i 0).toNat=0 then 0 else 2 ^ (15-(l.getD i 0).toNat) from fun _=>rfl)
  have HZ:=hide (show yg l 0=0 from rfl)
  generalize yL l=res at *
  go_enter Tryz.func168,Tryz.ntmps168
  go_wp2
  go_loopw [4,5] (fun a b wr=>∃ i s:Nat,i≤l.length∧b=.int .i64 (i:Int)∧a=.int .i64 (s:Int)∧s=yg l i∧(∀ q,q<i→(l.getD q 0).toNat≤15)∧Ext w wr) (fun _ b _=>l.length-(intOf b).toNat)
  case atStart=>exact⟨0,0,by omega,rfl,rfl,HZ.out.symm,fun q hq=>absurd hq (by omega),Ext.refl _⟩
  case round =>
   obtain⟨i,s,hi,rfl,rfl,hs,hall,hE⟩:=hrel
   have HAll:=hide hall
   have HSS:=hide hs
   clear hall
   by_cases hlt:i<l.length
   ·rcases (hE.bytes h).2 with h0 | ⟨b,o,rfl,hB,hc⟩
    ·omega
    have hk:=hc i hlt
    have hyl:=UInt8.toNat_lt (l.getD i 0)
    have hSum:=HS.out i
    have hBad:=HBad.out i hlt
    have hkr:=HK.out i
    rw[← hs]at hkr hSum
    obtain⟨y,hy⟩:∃ y,y=(l.getD i 0).toNat:=⟨_,rfl⟩
    rw[← hy]at hk hyl hSum hBad
    have HY:=hide hy
    have hil:(i:Int)<(l.length:Int):=by omega
    clear hc hy hs
    by_cases h15:(15:Int)<(y:Int)
    ·have HN:=hide (hBad (by omega))
     clear hBad hSum
     go_wp2
     go_ret2
     rw[HN.out]
     exact⟨rfl,hE⟩
    ·by_cases h0:(0:Int)<(y:Int)
     ·rw[if_neg (by omega)]at hSum
      have HSum:=hide hSum
      clear hSum hBad
      obtain⟨wa,rfl⟩:∃ W,W=wr:=⟨_,rfl⟩
      go_wp2_with fail
      go_loopw [6,7] (fun a b wr=>∃ k v:Nat,k≤y∧b=.int .i64 (k:Int)∧a=.int .i64 (v:Int)∧v=2 ^ (15-k)∧wr=wa) (fun _ b _=>y-(intOf b).toNat)
      case atStart=>exact⟨0,32768,by omega,rfl,rfl,rfl,rfl⟩
      case round =>
       obtain⟨k,v,hk1,rfl,rfl,hv,rfl⟩:=hrel
       by_cases hky:(k:Int)<(y:Int)
       ·have e:2 ^ (15-k)=2*2 ^ (15-(k+1)):=by rw[show 15-k=(15-(k+1))+1 by omega,Nat.pow_succ,Nat.mul_comm]
        have hb:2 ^ (15-(k+1))≤32768:=Nat.le_trans (Nat.pow_le_pow_right (by omega) (show 15-(k+1)≤15 by omega)) (by decide)
        obtain⟨v',hv'⟩:∃ v,v=2 ^ (15-(k+1)):=⟨_,rfl⟩
        rw[← hv,← hv']at e
        rw[← hv']at hb
        have hq:((v:Nat):Int).tdiv 2=((v':Nat):Int):=by
         rw[Int.tdiv_eq_ediv_of_nonneg (by omega),e]
         omega
        have hb2:(v:Int)≤65536:=by omega
        have HV':=hide hv'
        clear e hv hv'
        go_wp2
        go_roundw
        case rel=>exact⟨k+1,v',by omega,by go_num,by go_num,HV'.out,trivial⟩
        case measure=>simp[intOf];omega
       ·obtain rfl:k=y:=by omega
        have hb:2 ^ (15-k)≤32768:=Nat.le_trans (Nat.pow_le_pow_right (by omega) (show 15-k≤15 by omega)) (by decide)
        rw[← hv]at hb HSum
        clear hv
        go_wp2
        go_roundw
        case rel=>exact⟨i+1,s+v,by omega,by go_num,by go_num,HSum.out.symm,fun q hq=>(by
         by_cases hqi:q=i
         ·rw[hqi,← HY.out];omega
         ·exact HAll.out q (by omega)),hE⟩
        case measure=>simp[intOf];omega
     ·rw[if_pos (by omega),Nat.add_zero]at hSum
      have HSum:=hide hSum
      clear hSum hBad
      go_wp2
      go_roundw
      case rel=>exact⟨i+1,s,by omega,by go_num,rfl,HSum.out.symm,fun q hq=>(by
       by_cases hqi:q=i
       ·rw[hqi,← HY.out];omega
       ·exact HAll.out q (by omega)),hE⟩
      case measure=>simp[intOf];omega
   ·obtain rfl:l.length=i:=by omega
    have HN:=hide (HOk.out HAll.out)
    clear h
    rw[← hs]at HN
    clear hs
    go_wp2
    go_ret2
    rw[HN.out]
    exact⟨rfl,hE⟩
end
section
open Go.RowKit Len Can
set_option maxHeartbeats 2000000 in
set_option maxRecDepth 100000 in
theorem qF (A:Option Addr)(n c:Nat)(l:List UInt8)(w:World)(h:Bytes w w.heap.size A n l):Calls Tryz.prog 148 #[.slice A n c] w fun e w'=>e=.returned (.int .i64 (checkE l))∧Ext w w':=by
 have hl:=h.1
 subst hl
 have C1:=Ur A l.length c l w h
 by_cases hk:(yL l).2=0
 ·have HR:=hide (show ∀ r:Prop,((vD l l.length=0∨vD l l.length=1∧Qy l l.length=1∨(yL l).1=32768)↔r)→(r→checkE l=0)∧(¬ r→checkE l=7) from fun r hr=>⟨fun h=>zU (decide_eq_true ⟨hk,hr.2 h⟩),fun h=>yw (decide_eq_false fun h2=>h (hr.1 h2.2))⟩)
  obtain⟨h300,_,hkw⟩:=qr hk
  have HU:=hide (show ∀ i,vD l (i+1)=vD l i+if zg l i=0 then 0 else 1 from fun _=>rfl)
  have HO:=hide (show ∀ i,Qy l (i+1)=Qy l i+if zg l i=1 then 1 else 0 from fun _=>rfl)
  have HU0:=hide (show vD l 0=0 from rfl)
  have HO0:=hide (show Qy l 0=0 from rfl)
  unfold QM at C1
  rw[hk]at C1
  clear hk hkw
  generalize (yL l).1=kw at *
  generalize hck:checkE l=ck at *
  clear hck
  go_enter Tryz.func148,Tryz.ntmps148
  go_wp2_with fail
  refine C1.mono ?_
  rintro e w2 ⟨rfl,hE⟩
  clear C1
  go_wp2_with fail
  go_loopw [5,6,7] (fun a b d wr=>∃ i u o:Nat,i≤l.length∧d=.int .i64 (i:Int)∧a=.int .i64 (u:Int)∧b=.int .i64 (o:Int)∧u=vD l i∧o=Qy l i∧u≤i∧o≤i∧Ext w wr) (fun _ _ d _=>l.length-(intOf d).toNat)
  case atStart=>exact⟨0,0,0,Nat.zero_le _,rfl,rfl,rfl,HU0.out.symm,HO0.out.symm,Nat.le_refl _,Nat.le_refl _,hE⟩
  case round =>
   obtain⟨i,u,o,hi,rfl,rfl,rfl,hu,ho,hui,hoi,hE2⟩:=hrel
   by_cases hlt:i<l.length
   ·rcases (hE2.bytes h).2 with h0 | ⟨b,off,rfl,hB,hc⟩
    ·omega
    have hk:=hc i hlt
    have hU:=HU.out i
    have hO:=HO.out i
    unfold zg at hU hO
    rw[← hu]at hU
    rw[← ho]at hO
    have hyl:=UInt8.toNat_lt (l.getD i 0)
    obtain⟨y,hy⟩:∃ y,y=(l.getD i 0).toNat:=⟨_,rfl⟩
    rw[← hy]at hk hU hO hyl
    have hil:(i:Int)<(l.length:Int):=by omega
    clear hc hy hu ho h
    by_cases y0:y=0
    ·rw[if_pos y0]at hU
     rw[if_neg (by omega)]at hO
     have HU2:=hide hU
     have HO2:=hide hO
     subst y0
     clear hU hO
     go_wp2
     go_roundw
     case rel=>exact⟨i+1,u,o,by omega,by go_num,rfl,rfl,HU2.out.symm,HO2.out.symm,by omega,by omega,hE2⟩
     case measure=>simp[intOf];omega
    ·rw[if_neg y0]at hU
     have hy0:(0:Int)<(y:Int):=by omega
     by_cases y1:y=1
     ·rw[if_pos y1]at hO
      have HU2:=hide hU
      have HO2:=hide hO
      subst y1
      clear hU hO
      go_wp2
      go_roundw
      case rel=>exact⟨i+1,u+1,o+1,by omega,by go_num,by go_num,by go_num,HU2.out.symm,HO2.out.symm,by omega,by omega,hE2⟩
      case measure=>simp[intOf];omega
     ·rw[if_neg y1]at hO
      have HU2:=hide hU
      have HO2:=hide hO
      have hyb:((y:Int)==1)=false:=by rw[beq_eq_false_iff_ne];omega
      clear hU hO
      go_wp2
      go_roundw
      case rel=>exact⟨i+1,u+1,o,by omega,by go_num,by go_num,rfl,HU2.out.symm,HO2.out.symm,by omega,by omega,hE2⟩
      case measure=>simp[intOf];omega
   ·obtain rfl:l.length=i:=by omega
    have HRu:=hide (HR.out (u=0∨u=1∧o=1∨kw=32768) (by rw[hu,ho]))
    clear hu ho h
    by_cases u0:u=0
    ·have HK:=hide (HRu.out.1 (.inl u0))
     subst u0
     clear HRu
     go_wp2
     go_ret
     exact⟨zi HK.out.symm,hE2⟩
    ·have hub:((u:Int)==0)=false:=by rw[beq_eq_false_iff_ne];omega
     by_cases hk:kw=32768
     ·have HK:=hide (HRu.out.1 (.inr (.inr hk)))
      subst hk
      by_cases u1:u=1
      ·subst u1
       by_cases o1:o=1
       ·subst o1
        clear HRu
        go_wp2
        go_ret
        exact⟨zi HK.out.symm,hE2⟩
       ·have hob:((o:Int)==1)=false:=by rw[beq_eq_false_iff_ne];omega
        clear HRu
        go_wp2
        go_ret
        exact⟨zi HK.out.symm,hE2⟩
      ·have hu1:((u:Int)==1)=false:=by rw[beq_eq_false_iff_ne];omega
       clear HRu
       go_wp2
       go_ret
       exact⟨zi HK.out.symm,hE2⟩
     ·have hkb:((kw:Int)==32768)=false:=by rw[beq_eq_false_iff_ne];omega
      by_cases u1:u=1
      ·subst u1
       by_cases o1:o=1
       ·have HK:=hide (HRu.out.1 (.inr (.inl ⟨rfl,o1⟩)))
        subst o1
        clear HRu
        go_wp2
        go_ret
        exact⟨zi HK.out.symm,hE2⟩
       ·have HK:=hide (HRu.out.2 (by omega))
        have hob:((o:Int)==1)=false:=by rw[beq_eq_false_iff_ne];omega
        clear HRu
        go_wp2
        go_ret
        exact⟨zi HK.out.symm,hE2⟩
      ·have HK:=hide (HRu.out.2 (by omega))
       have hu1:((u:Int)==1)=false:=by rw[beq_eq_false_iff_ne];omega
       clear HRu
       go_wp2
       go_ret
       exact⟨zi HK.out.symm,hE2⟩
 ·have HN:=hide (show checkE l=7 from yw (decide_eq_false fun h2=>hk h2.1))
  have h13:(yL l).2=13:=by
   unfold yL at hk ⊢
   split at hk
   ·exact absurd rfl hk
   ·rename_i h2
    rw[if_neg h2]
  unfold QM at C1
  rw[h13]at C1
  generalize (yL l).1=kw at *
  generalize checkE l=ck at *
  clear hk h13 h
  go_enter Tryz.func148,Tryz.ntmps148
  go_wp2_with fail
  refine C1.mono ?_
  rintro e w2 ⟨rfl,hE⟩
  go_wp2
  go_ret
  exact⟨zi HN.out.symm,hE⟩
end
section
open Go.RowKit Wrd Dic
theorem Dic.alike_step {a b:List UInt8}{i:Nat}(h1:i<a.length)(h2:i<b.length):alike (a.drop i) (b.drop i)=if a[i]=b[i] then alike (a.drop (i+1)) (b.drop (i+1))+1 else 0:=by
 rw[List.drop_eq_getElem_cons h1,List.drop_eq_getElem_cons h2,alike]
attribute [local go_sem ↓] yn z7 z8 xH
set_option maxHeartbeats 1000000 in
set_option maxRecDepth 10000 in
theorem Us (a b:List UInt8)(w:World)(ha:a.length≤1000000):Calls Tryz.prog 91 #[.string ⟨a.toArray⟩,.string ⟨b.toArray⟩] w fun e w'=>e=.returned (.int .i64 (alike a b:Int))∧Qt w w':=by
 have H0:=hide (show alike a b=0+alike (a.drop 0) (b.drop 0) by simp)
 have HSt:=hide (fun (i:Nat) (h1:i<a.length) (h2:i<b.length)=>alike_step h1 h2)
 have HEa:=hide (show ∀ t,alike (a.drop a.length) t=0 from fun t=>by rw[List.drop_length];simp[alike])
 have HEb:=hide (show ∀ t i,b.length≤i→alike t (b.drop i)=0 from fun t i h=>by rw[List.drop_of_length_le h];cases t<;>simp[alike])
 generalize alike a b=res at *
 go_enter Tryz.func91,Tryz.ntmps91
 go_wp2
 go_loopw [5] (fun y wr=>∃ i:Nat,i≤a.length∧y=.int .i64 (i:Int)∧res=i+alike (a.drop i) (b.drop i)∧Qt w wr) (fun y _=>a.length-(intOf y).toNat)
 case atStart=>exact⟨0,by omega,rfl,H0.out,Qt.refl _⟩
 case round =>
  clear H0
  obtain⟨i,hi,rfl,hres,hQ⟩:=hrel
  have HR:=hide hres
  clear hres
  by_cases hlt:i<a.length
  ·have hiI:(i:Int)<(a.length:Int):=by omega
   by_cases hlb:i<b.length
   ·have hbI:(i:Int)<(b.length:Int):=by omega
    have hd0:decide ((b.length:Int)≤(i:Int))=false:=decide_eq_false (by omega)
    have hst:=HSt.out i hlt hlb
    obtain⟨x,hx⟩:∃ x,a[i]'hlt=x:=⟨_,rfl⟩
    obtain⟨y,hy⟩:∃ y,b[i]'hlb=y:=⟨_,rfl⟩
    rw[hx,hy]at hst
    by_cases hxy:x=y
    ·rw[if_pos hxy]at hst
     have HS:=hide (show res=(i+1)+alike (a.drop (i+1)) (b.drop (i+1)) by rw[HR.out,hst];omega)
     have hne:((x.toNat:Int) != (y.toNat:Int))=false:=by rw[hxy];simp
     clear hst hxy
     go_wp2_with fail
     go_quiet (fail)
     go_wp2
     go_roundw
     case rel=>exact⟨i+1,by omega,by go_num,HS.out,hQ.drewN _⟩
     case measure=>simp[intOf];omega
    ·rw[if_neg hxy]at hst
     have HS:=hide (show res=i by rw[HR.out,hst];rfl)
     have hne:((x.toNat:Int) != (y.toNat:Int))=true:=by
      rw[bne_iff_ne]
      intro h
      exact hxy (UInt8.toNat_inj.1 (by omega))
     clear hst hxy
     go_wp2_with fail
     go_quiet (fail)
     go_wp2
     go_ret
     rw[HS.out]
     exact⟨rfl,hQ.drewN _⟩
   ·have hd0:decide ((b.length:Int)≤(i:Int))=true:=decide_eq_true (by omega)
    have HS:=hide (show res=i by rw[HR.out,HEb.out _ i (by omega)];rfl)
    go_wp2_with fail
    go_quiet (fail)
    go_wp2
    go_ret
    rw[HS.out]
    exact⟨rfl,hQ.drewN _⟩
  ·obtain rfl:i=a.length:=by omega
   have HS:=hide (show res=a.length by rw[HR.out,HEa.out];rfl)
   go_wp2
   go_ret
   rw[HS.out]
   exact⟨rfl,hQ⟩
theorem Dic.rises_of:∀ (l:List (List UInt8)),(∀ i,i+1<l.length→Op.bytesLess (l.getD i []) (l.getD (i+1) [])=true)→uL l=true
 | [],_=>rfl
 | [_],_=>rfl
 | a::b::t,h=>by
  rw[uL,Bool.and_eq_true]
  refine⟨h 0 (by simp),rises_of (b::t) fun i hi=>?_⟩
  have:=h (i+1) (by simpa using hi)
  rwa [List.getD_cons_succ,List.getD_cons_succ]at this
theorem Dic.may_yes {l:List (List UInt8)}(h0:l.length≤1048576)(h:∀ i,i<l.length→(1≤(l.getD i []).length∧(l.getD i []).length≤25)∧(0<i→Op.bytesLess (l.getD (i-1) []) (l.getD i [])=true)):mayD l=true:=by
 refine may_of h0 (fun s hs=>?_) ((ji l).1 (rises_of l fun i hi=>(h (i+1) hi).2 (by omega)))
 obtain⟨i,hi,rfl⟩:=List.getElem_of_mem hs
 have:=(h i hi).1
 rwa [List.getD_eq_getElem?_getD,List.getElem?_eq_getElem hi]at this
theorem Dic.may_no {l:List (List UInt8)}{i:Nat}(hi:i<l.length)(h:(l.getD i []).length<1∨25<(l.getD i []).length∨(0<i∧(Op.bytesLess (l.getD i []) (l.getD (i-1) []) || l.getD i []==l.getD (i-1) [])=true)):mayD l=false:=by
 cases hm:mayD l with
 | false=>rfl
 | true =>
  exfalso
  obtain⟨_,h2,h3⟩:=may_facts hm
  have hmem:=h2 (l.getD i []) (by rw[List.getD_eq_getElem?_getD,List.getElem?_eq_getElem hi];exact List.getElem_mem _)
  rcases h with h|h | ⟨h0,h⟩
  ·omega
  ·omega
  ·have hl:=aaw h3 (show i-1<i by omega) hi
   rw[Bool.or_eq_true,beq_iff_eq]at h
   rcases h with h|h
   ·have:=vi _ _ _ hl h
    rw[va]at this
    cases this
   ·rw[h,va]at hl
    cases hl
set_option maxHeartbeats 2000000 in
set_option maxRecDepth 10000 in
theorem qG (A:Option Addr)(n c:Nat)(L:List (List UInt8))(w:World)(h:TextsAt w w.heap.size A n L)(hn:n≤1048576)(hs:∀ s,s∈L→s.length≤1000000) :
  Calls Tryz.prog 88 #[.slice A n c] w fun e w'=>e=.returned (.bool (mayD L))∧Qt w w':=by
 have hl:=h.1
 have HA:=hide h
 have hnI:¬ (1048576:Int)<(n:Int):=by omega
 have HYes:=hide (show (∀ i,i<n→(1≤(L.getD i []).length∧(L.getD i []).length≤25)∧(0<i→Op.bytesLess (L.getD (i-1) []) (L.getD i [])=true))→mayD L=true from fun h=>may_yes (by omega) (by rw[hl];exact h))
 have HNo:=hide (fun (i:Nat) (hi:i<n)=>may_no (l:=L) (i:=i) (by omega))
 have HLe:=hide (show ∀ i,i<n→(L.getD i []).length≤1000000 from fun i hi=>hs _ (by
  rw[List.getD_eq_getElem?_getD,List.getElem?_eq_getElem (by omega)]
  exact List.getElem_mem _))
 generalize mayD L=res at *
 clear h hl hs
 go_enter Tryz.func88,Tryz.ntmps88
 go_wp2
 go_loopw [3] (fun x wr=>∃ i:Nat,i≤n∧x=.int .i64 (i:Int)∧(∀ j,j<i→(1≤(L.getD j []).length∧(L.getD j []).length≤25)∧(0<j→Op.bytesLess (L.getD (j-1) []) (L.getD j [])=true))∧Qt w wr) (fun x _=>n-(intOf x).toNat)
 case atStart=>exact⟨0,by omega,rfl,fun j hj=>absurd hj (by omega),Qt.refl _⟩
 case round =>
  obtain⟨i,hi,rfl,hall,hQ⟩:=hrel
  have HAll:=hide hall
  clear hall
  by_cases hlt:i<n
  ·have hiI:(i:Int)<(n:Int):=by omega
   rcases (HA.out.later hQ.ext).2 with hn0 | ⟨b1,o1,rfl,_,hc1⟩
   ·omega
   have e1:=hc1 i hlt
   have HNi:=hide (HNo.out i hlt)
   have HNext:=hide (show ((1≤(L.getD i []).length∧(L.getD i []).length≤25)∧(0<i→Op.bytesLess (L.getD (i-1) []) (L.getD i [])=true))→∀ j,j<i+1→(1≤(L.getD j []).length∧(L.getD j []).length≤25)∧(0<j→Op.bytesLess (L.getD (j-1) []) (L.getD j [])=true) from fun h j hj=>by
    by_cases e:j=i
    ·rw[e];exact h
    ·exact HAll.out j (by omega))
   obtain⟨j,hj⟩:∃ j,j=i-1:=⟨_,rfl⟩
   have HC2:=hide (show 0<i→wr.cell? ⟨b1,o1+j,none⟩=some (.string ⟨(L.getD j []).toArray⟩) from fun h=>hc1 j (by omega))
   rw[← hj]at HNi HNext
   obtain⟨y,hy⟩:∃ y,y=L.getD i []:=⟨_,rfl⟩
   obtain⟨z,hz⟩:∃ z,z=L.getD j []:=⟨_,rfl⟩
   rw[← hy]at e1 HNi HNext
   rw[← hz]at HNi HNext HC2
   have HJ:=hide hj
   clear hc1 hy hz hj
   by_cases g1:y.length<1
   ·have hd1:decide ((y.length:Int)<1)=true:=decide_eq_true (by omega)
    have HR:=hide (HNi.out (.inl g1))
    clear HNext HNi HC2 g1
    go_wp2_with fail
    go_quiet (fail)
    go_wp2
    go_ret
    exact⟨zf HR.out.symm,hQ.drewN _⟩
   have hd1:decide ((y.length:Int)<1)=false:=decide_eq_false (by omega)
   by_cases g2:25<y.length
   ·have hd2:decide ((25:Int)<(y.length:Int))=true:=decide_eq_true (by omega)
    have HR:=hide (HNi.out (.inr (.inl g2)))
    clear HNext HNi HC2 g1 g2
    go_wp2_with fail
    go_quiet (fail)
    go_wp2
    go_ret
    exact⟨zf HR.out.symm,hQ.drewN _⟩
   have hd2:decide ((25:Int)<(y.length:Int))=false:=decide_eq_false (by omega)
   rcases Nat.eq_zero_or_pos i with hi0|hi0
   ·have hd0:decide ((0:Int)<(i:Int))=false:=decide_eq_false (by omega)
    have hdn:decide (0<i)=false:=decide_eq_false (by omega)
    have hNx:=hide (HNext.out ⟨⟨by omega,by omega⟩,fun h=>absurd h (by omega)⟩)
    clear HNext HNi HC2 g1 g2 hi0
    go_wp2_with fail
    go_quiet (fail)
    go_wp2
    go_roundw
    case rel=>exact⟨i+1,by omega,by go_num,hNx.out,hQ.drewN _⟩
    case measure=>simp[intOf];omega
   have hd0:decide ((0:Int)<(i:Int))=true:=decide_eq_true (by omega)
   have hdn:decide (0<i)=true:=decide_eq_true hi0
   have e2:=HC2.out hi0
   have hji:(i:Int)-1=(j:Int):=by have:=HJ.out;omega
   have hj0:(0:Int)<(i:Int):=by omega
   have hjn:(j:Int)<(n:Int):=by omega
   cases hle:(Op.bytesLess y z || y==z) with
   | true =>
    have HR:=hide (HNi.out (.inr (.inr ⟨hi0,hle⟩)))
    clear HNext HNi HC2 g1 g2 hi0
    go_wp2_with fail
    go_quiet (fail)
    go_wp2
    go_ret
    exact⟨zf HR.out.symm,hQ.drewN _⟩
   | false =>
    have hNx:=hide (HNext.out ⟨⟨by omega,by omega⟩,fun _=>by
     rw[Bool.or_eq_false_iff,beq_eq_false_iff_ne]at hle
     exact uc y z hle.1 hle.2⟩)
    clear HNext HNi HC2 g1 g2 hi0
    go_wp2_with fail
    go_quiet (fail)
    go_wp2
    go_roundw
    case rel=>exact⟨i+1,by omega,by go_num,hNx.out,hQ.drewN _⟩
    case measure=>simp[intOf];omega
  ·obtain rfl:n=i:=by omega
   have HN:=hide (HYes.out HAll.out)
   go_wp2
   go_ret
   exact⟨zf HN.out.symm,hQ⟩
end
section
open Go.RowKit Wrd
attribute [local go_sem ↓] yn z7 z8
set_option maxHeartbeats 1000000 in
theorem xx (c:UInt8)(w:World):Calls Tryz.prog 122 #[.int .u8 (c.toNat:Int)] w fun e w'=>e=.returned (.int .u8 ((small c).toNat:Int))∧w=w':=by
 have hc:c.toNat<256:=c.toNat_lt
 have hs:small c=if (97≤c.toNat∧c.toNat≤122)∨(48≤c.toNat∧c.toNat≤57) then c else if 65≤c.toNat∧c.toNat≤90 then c+32 else 0:=rfl
 have h32:c.toNat≤90→(c+32).toNat=c.toNat+32:=fun h=>by rw[UInt8.toNat_add];show (c.toNat+32) % 256=_;omega
 by_cases a1:97≤c.toNat∧c.toNat≤122
 ·rw[if_pos (.inl a1)]at hs
  rw[hs]
  obtain⟨n,hn⟩:∃ n,n=c.toNat:=⟨_,rfl⟩
  rw[← hn]at a1 ⊢
  have b1:(97:Int)≤(n:Int):=by omega
  have b2:(n:Int)≤(122:Int):=by omega
  clear hn hs h32 hc a1
  go_enter Tryz.func122,Tryz.ntmps122
  go_wp2
  go_ret
  exact⟨rfl,rfl⟩
 by_cases a2:48≤c.toNat∧c.toNat≤57
 ·rw[if_pos (.inr a2)]at hs
  rw[hs]
  obtain⟨n,hn⟩:∃ n,n=c.toNat:=⟨_,rfl⟩
  rw[← hn]at a2 ⊢
  have b1:¬ (97:Int)≤(n:Int):=by omega
  have b2:(48:Int)≤(n:Int):=by omega
  have b3:(n:Int)≤(57:Int):=by omega
  clear hn hs h32 hc a2 a1
  go_enter Tryz.func122,Tryz.ntmps122
  go_wp2
  go_ret
  exact⟨rfl,rfl⟩
 rw[if_neg (by omega)]at hs
 by_cases a3:65≤c.toNat∧c.toNat≤90
 ·rw[if_pos a3]at hs
  rw[hs,h32 a3.2]
  obtain⟨n,hn⟩:∃ n,n=c.toNat:=⟨_,rfl⟩
  rw[← hn]at a3 ⊢
  have b1:¬ (97:Int)≤(n:Int):=by omega
  have b2:(48:Int)≤(n:Int):=by omega
  have b3:¬ (n:Int)≤(57:Int):=by omega
  have b4:(65:Int)≤(n:Int):=by omega
  have b5:(n:Int)≤(90:Int):=by omega
  have hw:IntKind.u8.wrap ((n:Int)+32)=((n+32:Nat):Int):=by rw[IntKind.wrap_u8];omega
  clear hn hs h32 hc a3 a2 a1
  go_enter Tryz.func122,Tryz.ntmps122
  go_wp2
  go_ret
  exact⟨rfl,rfl⟩
 rw[if_neg a3]at hs
 rw[hs]
 obtain⟨n,hn⟩:∃ n,n=c.toNat:=⟨_,rfl⟩
 rw[← hn]at a1 a2 a3 hc ⊢
 clear hn hs h32
 rcases (by omega:n<48∨(57<n∧n<65)∨(90<n∧n<97)∨122<n) with h|h|h|h
 ·have b1:¬ (97:Int)≤(n:Int):=by omega
  have b2:¬ (48:Int)≤(n:Int):=by omega
  have b4:¬ (65:Int)≤(n:Int):=by omega
  clear h a1 a2 a3 hc
  go_enter Tryz.func122,Tryz.ntmps122
  go_wp2
  go_ret
  exact⟨rfl,rfl⟩
 ·have b1:¬ (97:Int)≤(n:Int):=by omega
  have b2:(48:Int)≤(n:Int):=by omega
  have b3:¬ (n:Int)≤(57:Int):=by omega
  have b4:¬ (65:Int)≤(n:Int):=by omega
  clear h a1 a2 a3 hc
  go_enter Tryz.func122,Tryz.ntmps122
  go_wp2
  go_ret
  exact⟨rfl,rfl⟩
 ·have b1:¬ (97:Int)≤(n:Int):=by omega
  have b2:(48:Int)≤(n:Int):=by omega
  have b3:¬ (n:Int)≤(57:Int):=by omega
  have b4:(65:Int)≤(n:Int):=by omega
  have b5:¬ (n:Int)≤(90:Int):=by omega
  clear h a1 a2 a3 hc
  go_enter Tryz.func122,Tryz.ntmps122
  go_wp2
  go_ret
  exact⟨rfl,rfl⟩
 ·have b1:(97:Int)≤(n:Int):=by omega
  have b1':¬ (n:Int)≤(122:Int):=by omega
  have b2:(48:Int)≤(n:Int):=by omega
  have b3:¬ (n:Int)≤(57:Int):=by omega
  have b4:(65:Int)≤(n:Int):=by omega
  have b5:¬ (n:Int)≤(90:Int):=by omega
  clear h a1 a2 a3 hc
  go_enter Tryz.func122,Tryz.ntmps122
  go_wp2
  go_ret
  exact⟨rfl,rfl⟩
theorem ur {c:UInt8}(h:isL c=false):((small c).toNat:Int)=0:=by rw[acf.1 h];rfl
theorem qH {c:UInt8}(h:isL c=true):(small c).toNat≠0:=fun e=>aav.1 h (UInt8.toNat_inj.1 (by simpa using e))
theorem Wrd.drop_at {l:List UInt8}{i:Nat}(h:i<l.length):l.drop i=l.getD i 0::l.drop (i+1):=by
 rw[List.drop_eq_getElem_cons h,List.getD_eq_getElem?_getD,List.getElem?_eq_getElem h]
 rfl
def Wrd.prior (l:List UInt8)(i:Nat):Bool:=decide (0<i) && isL (l.getD (i-1) 0)
theorem Wrd.prior_next (l:List UInt8)(i:Nat):prior l (i+1)=isL (l.getD i 0):=by simp[prior]
theorem Wrd.words_at {l:List UInt8}{i:Nat}(h:i<l.length):zE (prior l i) (l.drop i)=(if isL (l.getD i 0)=true∧prior l i=false then [zZ 24 (l.drop i)] else [])++zE (prior l (i+1)) (l.drop (i+1)):=by
 rw[prior_next]
 conv=>lhs;rw[drop_at h,zE]
 rw[← drop_at h]
theorem Wrd.word_at {l:List UInt8}{k m:Nat}(h:k<l.length):zZ (m+1) (l.drop k)=if isL (l.getD k 0)=true then small (l.getD k 0)::zZ m (l.drop (k+1)) else []:=by rw[drop_at h,zZ]
set_option maxHeartbeats 1500000 in
set_option maxRecDepth 10000 in
theorem jE (l:List UInt8)(w:World)(hl:l.length≤100000):Calls Tryz.prog 96 #[.string ⟨l.toArray⟩] w (vN w (zv l)):=by
 have H0:=hide (show zv l=[]++zE (prior l 0) (l.drop 0) from rfl)
 have HEnd:=hide (show ∀ p,zE p (l.drop l.length)=[] from fun p=>by rw[List.drop_length];cases p<;>rfl)
 have HAt:=hide (fun (i:Nat) (hi:i<l.length)=>words_at hi)
 have HWd:=hide (fun (k m:Nat) (hk:k<l.length)=>word_at (m:=m) hk)
 have HLen:=hide (xm l)
 have HW0:=hide (show ∀ m,zZ m (l.drop l.length)=[] from fun m=>by rw[List.drop_length];cases m<;>rfl)
 generalize zv l=res at *
 unfold vN
 go_enter Tryz.func96,Tryz.ntmps96
 go_wp2
 go_loopw [4,3] (fun x u wr=>∃ (i:Nat) (v:Value) (P:List (List UInt8)),i≤l.length∧x=.int .i64 (i:Int)∧v=u∧OwnTx wr w.heap.size v P∧P.length≤i∧res=P++zE (prior l i) (l.drop i)∧Ext w wr) (fun x _ _=>l.length-(intOf x).toNat)
 case atStart=>exact⟨0,_,[],by omega,rfl,rfl,OwnTx.nil _ _,by simp,H0.out,Ext.refl _⟩
 case round =>
  clear H0
  obtain⟨i,v,P,hi,rfl,rfl,hO,hPl,hres,hE⟩:=hrel
  by_cases hlt:i<l.length
  ·have hiI:(i:Int)<(l.length:Int):=by omega
   rw[HAt.out i hlt]at hres
   have HRes:=hide hres
   have HA1:=hide (prior_next l i)
   have HO:=hide hO
   have HE:=hide hE
   have HPl:=hide hPl
   clear hres hO hE hPl
   obtain⟨c,hc0⟩:∃ c,c=l.getD i 0:=⟨_,rfl⟩
   have hc:l[i]'hlt=c:=by rw[hc0];simp[List.getD_eq_getElem?_getD,hlt]
   have HWi:=hide (show ∀ m,zZ (m+1) (l.drop i)=if isL c=true then small c::zZ m (l.drop (i+1)) else [] from fun m=>by rw[hc0];exact HWd.out i m hlt)
   rw[← hc0]at HRes HA1
   have CS:=fun W=>xx c W
   clear hc0
   cases hL:isL c with
   | false =>
    have hz:=ur hL
    have HRe2:=hide (show res=P++zE (prior l (i+1)) (l.drop (i+1)) by rw[HRes.out,if_neg (by rw[hL];simp)];rfl)
    generalize (small c).toNat=z at *
    clear hL
    go_wp2_with (refine (CS _).mono ?_;rintro e w' ⟨rfl,rfl⟩)
    go_roundw
    case rel=>exact⟨i+1,v,P,by omega,by go_num,rfl,HO.out,by have:=HPl.out;omega,HRe2.out,HE.out⟩
    case measure=>simp[intOf];omega
   | true =>
    have hz:=qH hL
    have HL:=hide hL
    cases hp:prior l i with
    | true =>
     have HRe2:=hide (show res=P++zE (prior l (i+1)) (l.drop (i+1)) by rw[HRes.out,if_neg (by rw[hp];simp)];rfl)
     obtain⟨j,hj⟩:∃ j,i=j+1:=⟨i-1,by
      rcases Nat.eq_zero_or_pos i with h|h
      ·subst h;simp[prior]at hp
      ·omega⟩
     have hp:isL (l.getD j 0)=true:=by rw[hj,prior_next]at hp;exact hp
     have hjl:j<l.length:=by omega
     obtain⟨d,hd0⟩:∃ d,d=l.getD j 0:=⟨_,rfl⟩
     have hd:l[j]'hjl=d:=by rw[hd0];simp[List.getD_eq_getElem?_getD,hjl]
     rw[← hd0]at hp
     have hy:=qH hp
     have CD:=fun W=>xx d W
     have hj1:(i:Int)-1=(j:Int):=by omega
     have hj0:(0:Int)<(i:Int):=by omega
     have hjI:(j:Int)<(l.length:Int):=by omega
     generalize (small c).toNat=z at *
     generalize (small d).toNat=y at *
     have hzb:((z:Int)==0)=false:=by rw[beq_eq_false_iff_ne];omega
     have hyb:((y:Int) != 0)=true:=by rw[bne_iff_ne];omega
     clear hL hp hd0 hj
     go_wp2_with fail
     refine (CS _).mono ?_
     rintro e w' ⟨rfl,rfl⟩
     go_wp2_with fail
     refine (CD _).mono ?_
     rintro e w' ⟨rfl,rfl⟩
     go_wp2
     go_roundw
     case rel=>exact⟨i+1,v,P,by omega,by go_num,rfl,HO.out,by have:=HPl.out;omega,HRe2.out,HE.out⟩
     case measure=>simp[intOf];omega
    | false =>
     have HRe2:=hide (show res=P++([zZ 24 (l.drop i)]++zE (prior l (i+1)) (l.drop (i+1))) by rw[HRes.out,if_pos ⟨hL,hp⟩])
     obtain⟨word,hw0⟩:∃ x,x=zZ 24 (l.drop i):=⟨_,rfl⟩
     have HQ0:=hide (show word=([]:List UInt8)++zZ (24-([]:List UInt8).length) (l.drop i) from hw0)
     rw[← hw0]at HRe2
     clear hw0
     obtain⟨wa,rfl⟩:∃ W,W=wr:=⟨_,rfl⟩
     generalize (small c).toNat=z at *
     have hzb:((z:Int)==0)=false:=by rw[beq_eq_false_iff_ne];omega
     rcases Nat.eq_zero_or_pos i with hi0|hi0
     ·have HI0:=hide hi0
      have hj0:¬ (0:Int)<(i:Int):=by omega
      clear hL hp hi0 HRes HL HWi
      go_wp2_with fail
      refine (CS _).mono ?_
      rintro e w' ⟨rfl,rfl⟩
      go_wp2
      go_loopw [6,5] (fun x u wr=>∃ (k:Nat) (q:Value) (Q:List UInt8),k≤l.length∧x=.int .i64 (k:Int)∧q=u∧OwnB wr wa.heap.size q Q∧Q.length≤24∧word=Q++zZ (24-Q.length) (l.drop k)∧Ext wa wr) (fun x _ _=>l.length-(intOf x).toNat)
      case atStart=>exact⟨i,_,[],by omega,rfl,rfl,OwnB.nil _ _,by simp,HQ0.out,Ext.refl _⟩
      case round =>
       clear HQ0
       obtain⟨k,q,Q,hk,rfl,rfl,hQ,hQl,hword,hEk⟩:=hrel
       obtain⟨Aq,cq,rfl,hq1,hq2,hq3⟩:=hQ.form
       have HDone:=hide (show Q=word→∀ (v2:Value) (w2:World),OwnTx w2 w.heap.size v2 (P++[Q])→Ext w w2→∃ (i':Nat) (v':Value) (P':List (List UInt8)),i'≤l.length∧Value.int .i64 ((i:Int)+1)=.int .i64 (i':Int)∧v'=v2∧OwnTx w2 w.heap.size v' P'∧P'.length≤i'∧res=P'++zE (prior l i') (l.drop i')∧Ext w w2 from fun h v2 w2 h1 h2 =>
        ⟨i+1,v2,P++[Q],by omega,rfl,rfl,h1,by rw[List.length_append,List.length_singleton];have:=HPl.out;omega,by rw[HRe2.out,h,List.append_assoc],h2⟩)
       have hconv:=fun (W:World) (hb:Ext wr W)=>xg cq ((hb.bytes hq3)) (fun h=>by subst h;rcases hq3.2 with h | ⟨_,_,h,_⟩;exact h;cases h)
       have HCv:=hide (hconv wr (Ext.refl _))
       have HOx:=hide (HO.out.ext hEk)
       have HEx:=hide (HE.out.trans hEk)
       have HEk:=hide hEk
       have hp1:P.length≤1000000:=by have:=HPl.out;omega
       have HQ:=hide hQ
       clear hq2 hq3 hQ hEk hconv
       by_cases hkl:k<l.length
       ·have hkI:(k:Int)<(l.length:Int):=by omega
        obtain⟨d,hd0⟩:∃ d,d=l.getD k 0:=⟨_,rfl⟩
        have hd:l[k]'hkl=d:=by rw[hd0];simp[List.getD_eq_getElem?_getD,hkl]
        have HWk:=hide (show ∀ m,zZ (m+1) (l.drop k)=if isL d=true then small d::zZ m (l.drop (k+1)) else [] from fun m=>by rw[hd0];exact HWd.out k m hkl)
        have CD:=fun W=>xx d W
        clear hd0
        cases hLd:isL d with
        | false =>
         have hy:=ur hLd
         have HW:=hide (show Q=word by
          rw[hword]
          rcases Nat.eq_zero_or_pos (24-Q.length) with h|h
          ·rw[h,zZ,List.append_nil]
          ·obtain⟨m,hm⟩:∃ m,24-Q.length=m+1:=⟨24-Q.length-1,by omega⟩
           rw[hm,HWk.out,if_neg (by rw[hLd];simp),List.append_nil])
         generalize (small d).toNat=y at *
         have hyb:((y:Int) != 0)=false:=by rw[hy];rfl
         clear hLd hword
         go_wp2_with fail
         refine (CD _).mono ?_
         rintro e w' ⟨rfl,rfl⟩
         have hcv:=HCv.out
         go_wp2_with (at_builtin;refine yx (v:=v) rfl (.tmp 56) (.tmp 59) rfl HEx.out HOx.out rfl Q rfl hp1 ?_;intro v2 w2 hO2 hE2)
         go_roundw
         case rel=>exact HDone.out HW.out v2 w2 hO2 hE2
         case measure=>simp[intOf];omega
        | true =>
         have hy:=qH hLd
         obtain⟨y,hy0⟩:∃ y,y=(small d).toNat:=⟨_,rfl⟩
         rw[← hy0]at CD hy
         have hyb:((y:Int) != 0)=true:=by rw[bne_iff_ne];omega
         have HY:=hide hy0
         have HLd:=hide hLd
         clear hy0 hLd
         by_cases hq24:Q.length<24
         ·have hqI:(Q.length:Int)<(24:Int):=by omega
          have HW:=hide (show word=(Q++[small d])++zZ (24-(Q++[small d]).length) (l.drop (k+1)) by
           rw[hword,show 24-Q.length=(24-(Q++[small d]).length)+1 by simp;omega,HWk.out,if_pos HLd.out,List.append_assoc];rfl)
          have hX:=zb wr (.cells #[.int .u8 (y:Int)] 5)
          have HQX:=hide (HQ.out.ext hX)
          have HBX:=hide (zr wr [small d] #[.int .u8 (y:Int)] 5 (0,0) (by rw[HY.out];rfl) 1 rfl)
          have HEX:=hide (HEk.out.trans hX)
          have hql:Q.length+1≤140737488355328:=by omega
          clear hword hX
          go_wp2_with fail
          refine (CD _).mono ?_
          rintro e w' ⟨rfl,rfl⟩
          go_wp2_with fail
          refine (CD _).mono ?_
          rintro e w' ⟨rfl,rfl⟩
          go_wp2_with (at_builtin;refine zw (l:=Q) rfl (.tmp 49) (.tmp 54) rfl rfl HQX.out rfl HBX.out hql HEX.out.le ?_;intro v2 w2 hO2 hG2)
          go_roundw
          case rel=>exact⟨k+1,v2,Q++[small d],by omega,by go_num,rfl,hO2,by simp;omega,HW.out,Below.grown HEX.out hG2 HEX.out.le (fun j hj=>(HQX.out.lt j hj).1)⟩
          case measure=>simp[intOf];omega
         ·have hqI:¬ (Q.length:Int)<(24:Int):=by omega
          have HW:=hide (show Q=word by rw[hword,show 24-Q.length=0 by omega,zZ,List.append_nil])
          clear hword
          go_wp2_with fail
          refine (CD _).mono ?_
          rintro e w' ⟨rfl,rfl⟩
          have hcv:=HCv.out
          go_wp2_with (at_builtin;refine yx (v:=v) rfl (.tmp 56) (.tmp 59) rfl HEx.out HOx.out rfl Q rfl hp1 ?_;intro v2 w2 hO2 hE2)
          go_roundw
          case rel=>exact HDone.out HW.out v2 w2 hO2 hE2
          case measure=>simp[intOf];omega
       ·obtain rfl:k=l.length:=by omega
        rw[HW0.out,List.append_nil]at hword
        have HW:=hide hword.symm
        have hcv:=HCv.out
        clear hword
        go_wp2_with (at_builtin;refine yx (v:=v) rfl (.tmp 56) (.tmp 59) rfl HEx.out HOx.out rfl Q rfl hp1 ?_;intro v2 w2 hO2 hE2)
        go_roundw
        case rel=>exact HDone.out HW.out v2 w2 hO2 hE2
        case measure=>simp[intOf];omega
     ·obtain⟨j,hj⟩:∃ j,i=j+1:=⟨i-1,by omega⟩
      have hp:isL (l.getD j 0)=false:=by rw[hj,prior_next]at hp;exact hp
      have hjl:j<l.length:=by omega
      obtain⟨d,hd0⟩:∃ d,d=l.getD j 0:=⟨_,rfl⟩
      have hd:l[j]'hjl=d:=by rw[hd0];simp[List.getD_eq_getElem?_getD,hjl]
      rw[← hd0]at hp
      have hy:=ur hp
      have CD:=fun W=>xx d W
      have hj1:(i:Int)-1=(j:Int):=by omega
      have hj0:(0:Int)<(i:Int):=by omega
      have hjI:(j:Int)<(l.length:Int):=by omega
      generalize (small d).toNat=y at *
      have hyb:((y:Int) != 0)=false:=by rw[hy];rfl
      clear hL hp hd0 hj HRes HL HWi
      go_wp2_with fail
      refine (CS _).mono ?_
      rintro e w' ⟨rfl,rfl⟩
      go_wp2_with fail
      refine (CD _).mono ?_
      rintro e w' ⟨rfl,rfl⟩
      go_wp2
      clear CD hy hyb hd hjI hj1
      go_loopw [6,5] (fun x u wr=>∃ (k:Nat) (q:Value) (Q:List UInt8),k≤l.length∧x=.int .i64 (k:Int)∧q=u∧OwnB wr wa.heap.size q Q∧Q.length≤24∧word=Q++zZ (24-Q.length) (l.drop k)∧Ext wa wr) (fun x _ _=>l.length-(intOf x).toNat)
      case atStart=>exact⟨i,_,[],by omega,rfl,rfl,OwnB.nil _ _,by simp,HQ0.out,Ext.refl _⟩
      case round =>
       clear HQ0
       obtain⟨k,q,Q,hk,rfl,rfl,hQ,hQl,hword,hEk⟩:=hrel
       obtain⟨Aq,cq,rfl,hq1,hq2,hq3⟩:=hQ.form
       have HDone:=hide (show Q=word→∀ (v2:Value) (w2:World),OwnTx w2 w.heap.size v2 (P++[Q])→Ext w w2→∃ (i':Nat) (v':Value) (P':List (List UInt8)),i'≤l.length∧Value.int .i64 ((i:Int)+1)=.int .i64 (i':Int)∧v'=v2∧OwnTx w2 w.heap.size v' P'∧P'.length≤i'∧res=P'++zE (prior l i') (l.drop i')∧Ext w w2 from fun h v2 w2 h1 h2 =>
        ⟨i+1,v2,P++[Q],by omega,rfl,rfl,h1,by rw[List.length_append,List.length_singleton];have:=HPl.out;omega,by rw[HRe2.out,h,List.append_assoc],h2⟩)
       have hconv:=fun (W:World) (hb:Ext wr W)=>xg cq ((hb.bytes hq3)) (fun h=>by subst h;rcases hq3.2 with h | ⟨_,_,h,_⟩;exact h;cases h)
       have HCv:=hide (hconv wr (Ext.refl _))
       have HOx:=hide (HO.out.ext hEk)
       have HEx:=hide (HE.out.trans hEk)
       have HEk:=hide hEk
       have hp1:P.length≤1000000:=by have:=HPl.out;omega
       have HQ:=hide hQ
       clear hq2 hq3 hQ hEk hconv
       by_cases hkl:k<l.length
       ·have hkI:(k:Int)<(l.length:Int):=by omega
        obtain⟨d,hd0⟩:∃ d,d=l.getD k 0:=⟨_,rfl⟩
        have hd:l[k]'hkl=d:=by rw[hd0];simp[List.getD_eq_getElem?_getD,hkl]
        have HWk:=hide (show ∀ m,zZ (m+1) (l.drop k)=if isL d=true then small d::zZ m (l.drop (k+1)) else [] from fun m=>by rw[hd0];exact HWd.out k m hkl)
        have CD:=fun W=>xx d W
        clear hd0
        cases hLd:isL d with
        | false =>
         have hy:=ur hLd
         have HW:=hide (show Q=word by
          rw[hword]
          rcases Nat.eq_zero_or_pos (24-Q.length) with h|h
          ·rw[h,zZ,List.append_nil]
          ·obtain⟨m,hm⟩:∃ m,24-Q.length=m+1:=⟨24-Q.length-1,by omega⟩
           rw[hm,HWk.out,if_neg (by rw[hLd];simp),List.append_nil])
         generalize (small d).toNat=y at *
         have hyb:((y:Int) != 0)=false:=by rw[hy];rfl
         clear hLd hword
         go_wp2_with fail
         refine (CD _).mono ?_
         rintro e w' ⟨rfl,rfl⟩
         have hcv:=HCv.out
         go_wp2_with (at_builtin;refine yx (v:=v) rfl (.tmp 56) (.tmp 59) rfl HEx.out HOx.out rfl Q rfl hp1 ?_;intro v2 w2 hO2 hE2)
         go_roundw
         case rel=>exact HDone.out HW.out v2 w2 hO2 hE2
         case measure=>simp[intOf];omega
        | true =>
         have hy:=qH hLd
         obtain⟨y,hy0⟩:∃ y,y=(small d).toNat:=⟨_,rfl⟩
         rw[← hy0]at CD hy
         have hyb:((y:Int) != 0)=true:=by rw[bne_iff_ne];omega
         have HY:=hide hy0
         have HLd:=hide hLd
         clear hy0 hLd
         by_cases hq24:Q.length<24
         ·have hqI:(Q.length:Int)<(24:Int):=by omega
          have HW:=hide (show word=(Q++[small d])++zZ (24-(Q++[small d]).length) (l.drop (k+1)) by
           rw[hword,show 24-Q.length=(24-(Q++[small d]).length)+1 by simp;omega,HWk.out,if_pos HLd.out,List.append_assoc];rfl)
          have hX:=zb wr (.cells #[.int .u8 (y:Int)] 5)
          have HQX:=hide (HQ.out.ext hX)
          have HBX:=hide (zr wr [small d] #[.int .u8 (y:Int)] 5 (0,0) (by rw[HY.out];rfl) 1 rfl)
          have HEX:=hide (HEk.out.trans hX)
          have hql:Q.length+1≤140737488355328:=by omega
          clear hword hX
          go_wp2_with fail
          refine (CD _).mono ?_
          rintro e w' ⟨rfl,rfl⟩
          go_wp2_with fail
          refine (CD _).mono ?_
          rintro e w' ⟨rfl,rfl⟩
          go_wp2_with (at_builtin;refine zw (l:=Q) rfl (.tmp 49) (.tmp 54) rfl rfl HQX.out rfl HBX.out hql HEX.out.le ?_;intro v2 w2 hO2 hG2)
          go_roundw
          case rel=>exact⟨k+1,v2,Q++[small d],by omega,by go_num,rfl,hO2,by simp;omega,HW.out,Below.grown HEX.out hG2 HEX.out.le (fun j hj=>(HQX.out.lt j hj).1)⟩
          case measure=>simp[intOf];omega
         ·have hqI:¬ (Q.length:Int)<(24:Int):=by omega
          have HW:=hide (show Q=word by rw[hword,show 24-Q.length=0 by omega,zZ,List.append_nil])
          clear hword
          go_wp2_with fail
          refine (CD _).mono ?_
          rintro e w' ⟨rfl,rfl⟩
          have hcv:=HCv.out
          go_wp2_with (at_builtin;refine yx (v:=v) rfl (.tmp 56) (.tmp 59) rfl HEx.out HOx.out rfl Q rfl hp1 ?_;intro v2 w2 hO2 hE2)
          go_roundw
          case rel=>exact HDone.out HW.out v2 w2 hO2 hE2
          case measure=>simp[intOf];omega
       ·obtain rfl:k=l.length:=by omega
        rw[HW0.out,List.append_nil]at hword
        have HW:=hide hword.symm
        have hcv:=HCv.out
        clear hword
        go_wp2_with (at_builtin;refine yx (v:=v) rfl (.tmp 56) (.tmp 59) rfl HEx.out HOx.out rfl Q rfl hp1 ?_;intro v2 w2 hO2 hE2)
        go_roundw
        case rel=>exact HDone.out HW.out v2 w2 hO2 hE2
        case measure=>simp[intOf];omega
  ·obtain rfl:i=l.length:=by omega
   rw[HEnd.out,List.append_nil]at hres
   have HRes:=hide hres
   have HO:=hide hO
   have HE:=hide hE
   clear hres hO hE
   go_wp2
   go_ret
   obtain⟨A,c,rfl,h1,h2,h3⟩:=HO.out.form
   rw[HRes.out]
   exact⟨A,c,rfl,h1,h2,h3,HE.out⟩
end
section
open Go.RowKit Wrd
theorem Wrd.mem_at {l:List (List UInt8)}{i:Nat}(h:i<l.length):l.getD i []∈l:=by
 rw[List.getD_eq_getElem?_getD,List.getElem?_eq_getElem h]
 exact List.getElem_mem _
theorem Wrd.at_mem {l:List (List UInt8)}{x:List UInt8}(h:x∈l):∃ i,i<l.length∧l.getD i []=x:=by
 obtain⟨i,hi,rfl⟩:=List.getElem_of_mem h
 exact⟨i,hi,by rw[List.getD_eq_getElem?_getD,List.getElem?_eq_getElem hi];rfl⟩
set_option maxHeartbeats 1000000 in
set_option maxRecDepth 10000 in
theorem Ut (A:Option Addr)(n c:Nat)(L:List (List UInt8))(x:List UInt8)(w:World)(h:TextsAt w w.heap.size A n L)(hn:n≤1000000) :
  Calls Tryz.prog 67 #[.slice A n c,.string ⟨x.toArray⟩] w fun e w'=>e=.returned (.bool (decide (x∈L)))∧w=w':=by
 have hl:=h.1
 have HA:=hide h
 have HYes:=hide (show ∀ i,i<n→L.getD i []=x→decide (x∈L)=true from fun i hi e=>decide_eq_true (e ▸ mem_at (by omega)))
 have HNo:=hide (show (∀ i,i<n→L.getD i []≠x)→decide (x∈L)=false from fun h=>decide_eq_false fun hm=>by
  obtain⟨i,hi,e⟩:=at_mem hm
  exact h i (by omega) e)
 generalize decide (x∈L)=res at *
 clear h hl
 go_enter Tryz.func67,Tryz.ntmps67
 go_wp2
 go_loopw [5] (fun y wr=>∃ i:Nat,i≤n∧y=.int .i64 (i:Int)∧(∀ j,j<i→L.getD j []≠x)∧wr=w) (fun y _=>n-(intOf y).toNat)
 case atStart=>exact⟨0,by omega,rfl,fun j hj=>absurd hj (by omega),rfl⟩
 case round =>
  obtain⟨i,hi,rfl,hall,rfl⟩:=hrel
  have HAll:=hide hall
  clear hall
  by_cases hlt:i<n
  ·have hiI:(i:Int)<(n:Int):=by omega
   rcases HA.out.2 with hn0 | ⟨b1,o1,rfl,_,hc1⟩
   ·omega
   have e1:=hc1 i hlt
   have HYi:=hide (HYes.out i hlt)
   obtain⟨y,hy⟩:∃ y,y=L.getD i []:=⟨_,rfl⟩
   rw[← hy]at e1 HYi
   have HY:=hide hy
   clear hc1 hy
   by_cases g:y=x
   ·have HR:=hide (HYi.out g)
    have hb:(y==x)=true:=by simpa using g
    clear g HYi HYes HNo
    go_wp2
    go_ret
    exact⟨zf HR.out.symm,rfl⟩
   ·have hb:(y==x)=false:=by simpa using g
    have HG:=hide g
    clear g
    go_wp2
    go_roundw
    case rel=>exact⟨i+1,by omega,by go_num,fun j hj=>(by
     by_cases e:j=i
     ·rw[e,← HY.out];exact HG.out
     ·exact HAll.out j (by omega)),trivial⟩
    case measure=>simp[intOf];omega
  ·obtain rfl:n=i:=by omega
   have HN:=hide (HNo.out HAll.out)
   go_wp2
   go_ret
   exact⟨zf HN.out.symm,rfl⟩
attribute [local go_sem ↓] yn z7 z8
end
section
open Go.RowKit Wrd Dic Num
theorem qI (s:List UInt8)(w:World)(hs:s.length≤1000000):Calls Tryz.prog 90 #[.string ⟨s.toArray⟩] w (zt w (xC s)):=by
 have:=ZP ⟨s.toArray⟩ w (by rw[ye];exact hs)
 rw[ye]at this
 simpa[xC] using this
theorem Y1 {n:Nat}(h:n≤1000000000):IntKind.u64.wrap (n:Int)=(n:Int):=by rw[IntKind.wrap_u64];omega
attribute [local go_sem ↓] yn z7 z8 xH
set_option maxHeartbeats 4000000 in
set_option maxRecDepth 10000 in
theorem Y3 (A:Option Addr)(n c:Nat)(l:List (List UInt8))(size:Int)(w:World)(h:TextsAt w w.heap.size A n l)(hn:n≤1000)(hl:∀ s,s∈l→s.length≤1000000)(hs:-9223372036854775808≤size∧size≤9223372036854775807) :
  Calls Tryz.prog 63 #[.int .i64 size,.slice A n c] w (zB w (writeE size l).1 (writeE size l).2):=by
 unfold zB
 have hln:=h.1
 have CM:=fun W (hE:Ext w W)=>qG A n c l W (h.later hE) (by omega) hl
 by_cases h1:size<1
 ·have hw:writeE size l=([],13):=by unfold writeE;rw[if_pos (.inl h1)]
  rw[hw]
  clear CM hw hl h hln
  go_enter Tryz.func63,Tryz.ntmps63
  go_wp2
  go_ret2
  exact⟨_,rfl,OwnB.nil _ _,Ext.refl _⟩
 by_cases h2:64<size
 ·have hw:writeE size l=([],13):=by unfold writeE;rw[if_pos (.inr (.inl h2))]
  rw[hw]
  clear CM hw hl h hln
  go_enter Tryz.func63,Tryz.ntmps63
  go_wp2
  go_ret2
  exact⟨_,rfl,OwnB.nil _ _,Ext.refl _⟩
 cases hm:mayD l with
 | false =>
  have hw:writeE size l=([],13):=by unfold writeE;rw[if_pos (.inr (.inr hm))]
  rw[hw]
  rw[hm]at CM
  have CC:=CM w (Ext.refl w)
  clear CM hw hl h hln hm
  go_enter Tryz.func63,Tryz.ntmps63
  go_wp2_with fail
  refine CC.mono ?_
  rintro e w1 ⟨rfl,hQ1⟩
  have hE1:=hQ1.ext
  go_wp2
  go_ret2
  exact⟨_,rfl,OwnB.nil _ _,hE1⟩
 | true =>
  obtain⟨sz,rfl⟩:∃ sz:Nat,size=(sz:Int):=⟨size.toNat,by omega⟩
  have hsz1:1≤sz:=by omega
  have hsz2:sz≤64:=by omega
  have hw:writeE (sz:Int) l=(dictB sz l,0):=by unfold writeE;rw[if_neg (by rw[hm];simp;omega)];simp
  obtain⟨-,hfit,-⟩:=may_facts hm
  obtain⟨hb1,hb2,-⟩:=YG hsz1 hsz2 (l:=l) (fun s hs=>(hfit s hs).2)
  rw[hw]
  rw[hm]at CM
  have CC:=CM w (Ext.refl w)
  have CN:=hide (fun (x:Nat) (W:World) (hx:x≤1000000000)=>zx x W (by omega))
  have HFit:=hide (show ∀ i,i<n→(l.getD i []).length≤25 from fun i hi=>by
   rw[List.getD_eq_getElem?_getD,List.getElem?_eq_getElem (by omega)]
   exact (hfit _ (List.getElem_mem _)).2)
  have HIn:=hide (fun i=>Vr hsz1 hsz2 (l:=l) (fun s hs=>(hfit s hs).2) i)
  have HStep:=hide (fun (i:Nat) (hi:i<n)=>qm hsz1 (l:=l) (i:=i) (by omega))
  have HBs:=hide (fun (i:Nat) (hi:i<n)=>V9 hsz1 (l:=l) (i:=i) (by omega))
  have HTs:=hide (fun (k e:Nat) (h1:k<e) (h2:k<n)=>aa0 (l:=l) (k:=k) (e:=e) h1 (by omega))
  have HTe:=hide (fun (k e:Nat) (was:List UInt8) (h:e≤k∨n≤k)=>acg (l:=l) (k:=k) (e:=e) (by omega) was)
  have HEnd:=hide (fun (i:Nat) (hi:n≤i)=>ZL (size:=sz) (l:=l) (i:=i) (by omega))
  have HA:=hide (fun W (hE:Ext w W)=>h.later hE)
  have HD:=hide (show dictB sz l=(enc n++zP (ym sz l))++zV (ym sz l) by rw[← hln];rfl)
  rw[vM]at HD hb1 hb2
  rw[hln]at hb1 hb2
  have HT1:=hide (show (enc n++zP (zy sz l 0)).length≤100000 by omega)
  have HT2:=hide (show (zV (zy sz l 0)).length≤10000000 by omega)
  obtain⟨T1,hT1⟩:∃ T1,T1=enc n++zP (zy sz l 0):=⟨_,rfl⟩
  obtain⟨T2,hT2⟩:∃ T2,T2=zV (zy sz l 0):=⟨_,rfl⟩
  rw[← hT1]at HT1
  rw[← hT2]at HT2
  rw[← hT1,← hT2]at HD
  have HI1:=hide hT1
  have HI2:=hide (show T2=[]++zV (zy sz l 0) by rw[hT2];rfl)
  have hwn:=Y1 (n:=n) (by omega)
  rw[HD.out]
  clear CM hw hl h hln hm hfit hT1 hT2 hb1 hb2 HD hs
  go_enter Tryz.func63,Tryz.ntmps63
  go_wp2_with fail
  refine CC.mono ?_
  rintro e w1 ⟨rfl,hQ1⟩
  have HE1:=hide hQ1.ext
  clear CC hQ1
  go_wp2_with fail
  refine (CN.out n w1 (by omega)).mono ?_
  rintro e w2 ⟨v2,rfl,hO2,hE2⟩
  have HO2:=hide (hO2.mono HE1.out.le)
  have HE2:=hide (HE1.out.trans hE2)
  clear hO2 hE2 HE1
  have H30:=hide (show Three w2 w.heap.size v2 (enc n) (.slice none 0 0) [] (.slice none 0 0) [] from ⟨HO2.out,OwnB.nil _ _,OwnB.nil _ _,Ap.nil _,Ap.nil _,Ap.nil _⟩)
  go_wp2
  go_loopw [8,6,7] (fun y u v wr=>∃ (i:Nat) (H B:List UInt8),i≤n+64∧y=.int .i64 (i:Int)∧Three wr w.heap.size u H v B (.slice none 0 0) []∧T1=H++zP (zy sz l i)∧T2=B++zV (zy sz l i)∧Ext w wr) (fun y _ _ _=>n+64-(intOf y).toNat)
  case atStart=>exact⟨0,enc n,[],by omega,rfl,H30.out,HI1.out,HI2.out,HE2.out⟩
  case round =>
   clear HI1 HI2 H30 HE2 HO2
   obtain⟨i,H,B,hi,rfl,h3,ht1,ht2,hE⟩:=hrel
   have HE:=hide hE
   have H3:=hide h3
   have HT1':=hide ht1
   have HT2':=hide ht2
   clear hE h3 ht1 ht2
   by_cases hlt:i<n
   ·have hiI:(i:Int)<(n:Int):=by omega
    rcases (HA.out wr HE.out).2 with h0 | ⟨b1,o1,rfl,-,hc1⟩
    ·omega
    have hc:=hc1 i hlt
    have HCell:=hide (show ∀ W,Ext w W→∀ j,j<n→W.cell? ⟨b1,o1+j,none⟩=some (.string ⟨(l.getD j []).toArray⟩) from fun W hW j hj=>by
     rcases (HA.out W hW).2 with h0 | ⟨b2,o2,h2,-,hc2⟩
     ·omega
     ·simp only[Option.some.injEq,Addr.mk.injEq,and_true]at h2
      obtain⟨rfl,rfl⟩:=h2
      exact hc2 j hj)
    have HP:=hide (HBs.out i hlt)
    have HSi:=hide (HStep.out i hlt)
    have HPl:=hide (HIn.out i)
    obtain⟨P,hP⟩:∃ P,P=yp ((l.drop i).take sz):=⟨_,rfl⟩
    have hH1:=HT1'.out
    have hH2:=HT2'.out
    rw[HSi.out]at hH1 hH2
    rw[← hP]at HP HPl
    have HH1:=hide (show T1=H++enc P.length++zP (zy sz l (i+sz)) by rw[hH1,hP];simp[zP])
    have HH2:=hide (show T2=B++P++zV (zy sz l (i+sz)) by rw[hH2,hP];simp[zV])
    have HS0:=hide (HFit.out i hlt)
    obtain⟨s0,hs0⟩:∃ s,s=l.getD i []:=⟨_,rfl⟩
    rw[← hs0]at hc HP HS0
    have CT:=qI s0 wr (by have:=HS0.out;omega)
    have HSe:=hide hs0
    clear hP hH1 hH2 hc1 HT1' HT2' HSi hs0
    go_wp2_with fail
    refine CT.mono ?_
    rintro e w4 ⟨v4,rfl,hO4,hE4⟩
    have H34:=hide (H3.out.fresh hE4 hO4 HE.out.le)
    have HE4:=hide (HE.out.trans hE4)
    clear hO4 hE4 CT hc
    go_wp2
    obtain⟨wo,rfl⟩:∃ W,W=wr:=⟨_,rfl⟩
    go_loopw [10,9] (fun y x wk=>∃ (k:Nat) (X:List UInt8),i+1≤k∧k≤n∧y=.int .i64 (k:Int)∧Three wk w.heap.size u6 H u7 B x X∧P=X++xD (l.getD (k-1) []) (left l k (i+sz))∧Ext w wk) (fun y _ _=>n-(intOf y).toNat)
    case atStart=>exact⟨i+1,xC s0,by omega,by omega,rfl,H34.out,by rw[HP.out,show i+1-1=i by omega,← HSe.out],HE4.out⟩
    case round =>
     clear H34 HP HSe HS0
     obtain⟨k,X,hk1,hkn,rfl,h3k,hPk,hEk⟩:=hrel
     by_cases hcont:k<i+sz∧k<n
     ·obtain⟨hk3,hk4⟩:=hcont
      have hkI1:(k:Int)<(i:Int)+(sz:Int):=by omega
      have hkI2:(k:Int)<(n:Int):=by omega
      obtain⟨j,hj⟩:∃ j,k=j+1:=⟨k-1,by omega⟩
      have hj1:(k:Int)-1=(j:Int):=by omega
      have hjI:(j:Int)<(n:Int):=by omega
      have hk0:(0:Int)<(k:Int):=by omega
      have cj:=HCell.out wr hEk j (by omega)
      have ck:=HCell.out wr hEk k hk4
      rw[HTs.out k (i+sz) hk3 hk4,show k-1=j by omega]at hPk
      have HSj:=hide (HFit.out j (by omega))
      have HSk:=hide (HFit.out k hk4)
      obtain⟨sk,hsk⟩:∃ s,s=l.getD k []:=⟨_,rfl⟩
      obtain⟨sj,hsj⟩:∃ s,s=l.getD j []:=⟨_,rfl⟩
      rw[← hsk]at hPk ck HSk
      rw[← hsj]at hPk cj HSj
      have HSke:=hide hsk
      have hall:=(ql sj sk).2
      have CA:=fun m=>Calls.quiet_of (Us sj sk (wr.drewN m) (by have:=HSj.out;omega))
      have HIt:=hide (show itemB sj sk=enc (alike sj sk)++xC (sk.drop (alike sj sk)) from rfl)
      generalize alike sj sk=a at *
      have haI:(a:Int)≤(sk.length:Int):=by omega
      have ha25:a≤25:=by have:=HSk.out;omega
      have hwa:=Y1 (n:=a) (by omega)
      have HPk:=hide hPk
      have HXl:=hide (show X.length≤2000 by have h1:=HPl.out;rw[hPk,List.length_append]at h1;omega)
      have H3k:=hide (h3k.ext (Ext.refl wr))
      have HEk:=hide hEk
      clear hPk h3k hEk hsk hsj hk3 hall hj
      go_wp2_with fail
      go_quiet (first | (go_at_call 91;exact CA _))
      go_wp2_with fail
      refine (CN.out a _ (by omega)).mono ?_
      rintro e w5 ⟨v5,rfl,hO5,hE5⟩
      have hQ5:=((Ext.refl wr).drewN _).trans hE5
      have H35:=hide (H3k.out.ext hQ5)
      have HE5:=hide (HEk.out.trans hQ5)
      obtain⟨A5,c5,hv5,-,-,q5⟩:=hO5.form
      obtain⟨m5,hm5⟩:∃ m,m=(enc a).length:=⟨_,rfl⟩
      rw[← hm5]at hv5 q5
      have HM5:=hide hm5
      have HQ5:=hide q5
      subst hv5
      clear hO5 hE5 q5 hm5 hQ5 cj ck CA
      go_wp2_with (at_builtin;refine ze rfl (.tmp 64) (.tmp 67) rfl rfl H35.out.2.2.1 rfl HQ5.out (by have:=HXl.out;have:=HM5.out;have:=enc_len a;omega) HE5.out.le ?_;intro v6 w6 hO6 hG6 hN6;have H36:=hide (H35.out.turn.grow hO6 hG6 hN6).turn.turn;have HE6:=hide (show Ext w w6 from Below.grown HE5.out hG6 HE5.out.le (fun k hk=>(H35.out.2.2.1.lt k hk).1));have ck6:=HCell.out w6 HE6.out k hk4;rw[← HSke.out]at ck6;clear hO6 hG6 hN6)
      refine (qI (sk.drop a) w6 (by have:=HSk.out;rw[List.length_drop];omega)).mono ?_
      rintro e w7 ⟨v7,rfl,hO7,hE7⟩
      have H37:=hide (H36.out.ext hE7)
      have HE7:=hide (HE6.out.trans hE7)
      obtain⟨Z,hZ⟩:∃ Z,Z=xC (sk.drop a):=⟨_,rfl⟩
      rw[← hZ]at hO7
      obtain⟨A7,c7,hv7,-,-,q7⟩:=hO7.form
      obtain⟨m7,hm7⟩:∃ m,m=Z.length:=⟨_,rfl⟩
      rw[← hm7]at hv7 q7
      have HM7:=hide hm7
      have HQ7:=hide q7
      have HZ:=hide hZ
      have HZl:=hide (show Z.length≤40 by
       rw[hZ]
       unfold xC
       have:=HSk.out
       have:=enc_len (sk.drop a).length
       rw[List.length_append,List.length_drop]at *
       omega)
      subst hv7
      clear hO7 hE7 q7 hm7 hZ ck6
      go_wp2_with (at_builtin;refine ze rfl (.tmp 69) (.tmp 76) rfl rfl H37.out.2.2.1 rfl HQ7.out (by have:=HXl.out;have:=enc_len a;have:=HZl.out;have:=HM7.out;rw[List.length_append];omega) HE7.out.le ?_;intro v8 w8 hO8 hG8 hN8;have H38:=hide (H37.out.turn.grow hO8 hG8 hN8).turn.turn;have HE8:=hide (show Ext w w8 from Below.grown HE7.out hG8 HE7.out.le (fun k hk=>(H37.out.2.2.1.lt k hk).1));clear hO8 hG8 hN8)
      go_roundw
      case rel=>exact⟨k+1,X++enc a++Z,by omega,by omega,by go_num,H38.out,by rw[HPk.out,HIt.out,← HZ.out,show k+1-1=k by omega,← HSke.out];simp only[List.append_assoc],HE8.out⟩
      case measure=>simp[intOf];omega
     ·have HXP:P=X:=by rw[hPk,HTe.out k (i+sz) _ (by omega),List.append_nil]
      subst HXP
      have HXl:=hide HPl.out
      obtain⟨X,hX⟩:∃ X,X=P:=⟨_,rfl⟩
      rw[← hX]at h3k HH1 HH2 HXl
      have HHl:=hide (show H.length≤100000 by have h1:=HT1.out;rw[HH1.out,List.length_append,List.length_append]at h1;omega)
      have HBl:=hide (show B.length≤10000000 by have h1:=HT2.out;rw[HH2.out,List.length_append,List.length_append]at h1;omega)
      obtain⟨A9,c9,hv9,-,-,-⟩:=h3k.2.2.1.form
      subst hv9
      have hwx:=Y1 (n:=X.length) (by have:=HXl.out;omega)
      have H3k:=hide h3k
      have HEk:=hide hEk
      clear h3k hEk hPk hX HPl
      by_cases hge:i+sz≤k
      ·have hgI:¬ (k:Int)<(i:Int)+(sz:Int):=by omega
       clear hcont hge
       go_wp2_with fail
       refine (CN.out X.length wr (by have:=HXl.out;omega)).mono ?_
       rintro e w5 ⟨v5,rfl,hO5,hE5⟩
       have h35:=(H3k.out.ext hE5).drop.flip.flip
       have H35:=hide (H3k.out.ext hE5)
       have HE5:=hide (HEk.out.trans hE5)
       obtain⟨A5,c5,hv5,-,-,q5⟩:=hO5.form
       obtain⟨m5,hm5⟩:∃ m,m=(enc X.length).length:=⟨_,rfl⟩
       rw[← hm5]at hv5 q5
       have HM5:=hide hm5
       have HQ5:=hide q5
       subst hv5
       clear hO5 hE5 q5 hm5 h35
       go_wp2_with (first | (at_builtin;refine ze rfl (.tmp 78) (.tmp 82) rfl rfl H35.out.1 rfl HQ5.out (by have:=HM5.out;have:=HHl.out;have:=enc_len X.length;omega) HE5.out.le ?_;intro v6 w6 hO6 hG6 hN6;have H36:=hide (H35.out.grow hO6 hG6 hN6);have HE6:=hide (show Ext w w6 from Below.grown HE5.out hG6 HE5.out.le (fun k hk=>(H35.out.1.lt k hk).1));clear hO6 hG6 hN6) | (at_builtin;refine ze rfl (.tmp 84) (.tmp 85) rfl rfl H36.out.2.1 rfl H36.out.2.2.1.bytesOf (by have:=HXl.out;have:=HBl.out;omega) HE6.out.le ?_;intro v7 w7 hO7 hG7 hN7;have H37:=hide (H36.out.flip.grow hO7 hG7 hN7).flip.drop;have HE7:=hide (show Ext w w7 from Below.grown HE6.out hG7 HE6.out.le (fun k hk=>(H36.out.2.1.lt k hk).1));clear hO7 hG7 hN7))
       go_roundw
       case rel=>exact⟨i+sz,H++enc X.length,B++X,by omega,by go_num,H37.out,HH1.out,HH2.out,HE7.out⟩
       case measure=>simp[intOf];omega
      ·have hgI:(k:Int)<(i:Int)+(sz:Int):=by omega
       have hgI2:¬ (k:Int)<(n:Int):=by omega
       clear hcont hge
       go_wp2_with fail
       refine (CN.out X.length wr (by have:=HXl.out;omega)).mono ?_
       rintro e w5 ⟨v5,rfl,hO5,hE5⟩
       have h35:=(H3k.out.ext hE5).drop.flip.flip
       have H35:=hide (H3k.out.ext hE5)
       have HE5:=hide (HEk.out.trans hE5)
       obtain⟨A5,c5,hv5,-,-,q5⟩:=hO5.form
       obtain⟨m5,hm5⟩:∃ m,m=(enc X.length).length:=⟨_,rfl⟩
       rw[← hm5]at hv5 q5
       have HM5:=hide hm5
       have HQ5:=hide q5
       subst hv5
       clear hO5 hE5 q5 hm5 h35
       go_wp2_with (first | (at_builtin;refine ze rfl (.tmp 78) (.tmp 82) rfl rfl H35.out.1 rfl HQ5.out (by have:=HM5.out;have:=HHl.out;have:=enc_len X.length;omega) HE5.out.le ?_;intro v6 w6 hO6 hG6 hN6;have H36:=hide (H35.out.grow hO6 hG6 hN6);have HE6:=hide (show Ext w w6 from Below.grown HE5.out hG6 HE5.out.le (fun k hk=>(H35.out.1.lt k hk).1));clear hO6 hG6 hN6) | (at_builtin;refine ze rfl (.tmp 84) (.tmp 85) rfl rfl H36.out.2.1 rfl H36.out.2.2.1.bytesOf (by have:=HXl.out;have:=HBl.out;omega) HE6.out.le ?_;intro v7 w7 hO7 hG7 hN7;have H37:=hide (H36.out.flip.grow hO7 hG7 hN7).flip.drop;have HE7:=hide (show Ext w w7 from Below.grown HE6.out hG7 HE6.out.le (fun k hk=>(H36.out.2.1.lt k hk).1));clear hO7 hG7 hN7))
       go_roundw
       case rel=>exact⟨i+sz,H++enc X.length,B++X,by omega,by go_num,H37.out,HH1.out,HH2.out,HE7.out⟩
       case measure=>simp[intOf];omega
   ·have hiI:¬ (i:Int)<(n:Int):=by omega
    have hz:zy sz l i=[]:=HEnd.out i (by omega)
    have h1:=HT1'.out
    have h2:=HT2'.out
    rw[hz]at h1 h2
    have h1:T1=H:=by rw[h1];simp[zP]
    have h2:T2=B:=by rw[h2];simp[zV]
    subst h1 h2
    obtain⟨A7,c7,hv7,-,-,-⟩:=H3.out.2.1.form
    subst hv7
    clear HT1' HT2' hz hlt h1 h2
    go_wp2_with (at_builtin;refine ze rfl (.tmp 87) (.tmp 88) rfl rfl H3.out.1 rfl H3.out.2.1.bytesOf (by have:=HT1.out;have:=HT2.out;omega) HE.out.le ?_;intro v6 w6 hO6 hG6 hN6;have HO6:=hide hO6;have HE6:=hide (show Ext w w6 from Below.grown HE.out hG6 HE.out.le (fun k hk=>(H3.out.1.lt k hk).1));clear hO6 hG6 hN6)
    go_ret2
    exact⟨_,rfl,HO6.out,HE6.out⟩
end
section
open Go.RowKit Wrd
theorem Wrd.drop_tx {L:List (List UInt8)}{i:Nat}(h:i<L.length):L.drop i=L.getD i []::L.drop (i+1):=by
 rw[List.drop_eq_getElem_cons h,List.getD_eq_getElem?_getD,List.getElem?_eq_getElem h]
 rfl
theorem Wrd.take_tx {L:List (List UInt8)}{i:Nat}(h:i<L.length):L.take (i+1)=L.take i++[L.getD i []]:=by
 rw[List.take_add_one,List.getD_eq_getElem?_getD,List.getElem?_eq_getElem h]
 rfl
theorem Wrd.put_on {L R:List (List UInt8)}{s:List UInt8}{i:Nat}(h:i<L.length)(hb:Op.bytesLess (L.getD i []) s=true)(hR:R=L.take i++zM (L.drop i) s):R=L.take (i+1)++zM (L.drop (i+1)) s:=by
 rw[hR,drop_tx h,zM,if_pos hb,take_tx h,List.append_assoc]
 rfl
theorem Wrd.put_same {L R:List (List UInt8)}{s:List UInt8}{i:Nat}(h:i<L.length)(hb:Op.bytesLess (L.getD i []) s=false)(he:L.getD i []=s)(hR:R=L.take i++zM (L.drop i) s):R=L:=by
 rw[hR,drop_tx h,zM,if_neg (by rw[hb];simp),if_pos he,← drop_tx h,List.take_append_drop]
theorem Wrd.put_in {L R:List (List UInt8)}{s:List UInt8}{i:Nat}(h:i<L.length)(hb:Op.bytesLess (L.getD i []) s=false)(he:L.getD i []≠s)(hR:R=L.take i++zM (L.drop i) s):([]++L.take i++[s])++L.drop i=R:=by
 rw[hR]
 conv=>rhs;rw[drop_tx h,zM,if_neg (by rw[hb];simp),if_neg he,← drop_tx h]
 simp
theorem Wrd.put_end {L R:List (List UInt8)}{s:List UInt8}{n:Nat}(hn:L.length=n)(hR:R=L.take n++zM (L.drop n) s):([]++L.take n++[s])++L.drop n=R:=by
 subst hn
 rw[hR,List.drop_length]
 simp[zM]
attribute [local go_sem ↓] yn z7 z8 jl aa6
set_option maxHeartbeats 2000000 in
set_option maxRecDepth 10000 in
theorem ut (A:Option Addr)(n c:Nat)(L:List (List UInt8))(s:List UInt8)(w:World)(h:TextsAt w w.heap.size A n L)(hc:n≤c)(hcm:c≤maxLen)(hn:n≤100000) :
  Calls Tryz.prog 66 #[.slice A n c,.string ⟨s.toArray⟩] w (vN w (zM L s)):=by
 have hl:=h.1
 have HA:=hide h
 have H0:=hide (show zM L s=L.take 0++zM (L.drop 0) s from rfl)
 have HOn:=hide (fun (i:Nat) (hi:i<n)=>put_on (L:=L) (R:=zM L s) (s:=s) (i:=i) (by omega))
 have HSame:=hide (fun (i:Nat) (hi:i<n)=>put_same (L:=L) (R:=zM L s) (s:=s) (i:=i) (by omega))
 have HIn:=hide (fun (i:Nat) (hi:i<n)=>put_in (L:=L) (R:=zM L s) (s:=s) (i:=i) (by omega))
 have HEnd:=hide (put_end (L:=L) (R:=zM L s) (s:=s) hl)
 have HC:=hide (And.intro hc hcm)
 have HTl:=hide (show ∀ i,i≤n→(L.take i).length=i from fun i hi=>by rw[List.length_take];omega)
 generalize zM L s=res at *
 have HN:=hide hl
 unfold vN
 clear h hcm hl
 go_enter Tryz.func66,Tryz.ntmps66
 go_wp2
 go_loopw [5] (fun x wr=>∃ i:Nat,i≤n∧x=.int .i64 (i:Int)∧res=L.take i++zM (L.drop i) s∧wr=w) (fun x _=>n-(intOf x).toNat)
 case atStart=>exact⟨0,by omega,rfl,H0.out,rfl⟩
 case round =>
  clear H0
  obtain⟨i,hi,rfl,hres,rfl⟩:=hrel
  have HR:=hide hres
  clear hres
  have hiI2:(i:Int)≤(n:Int):=by omega
  have hicI:(i:Int)≤(c:Int):=by omega
  have HT1:=hide (HA.out.top hi)
  have HT2:=hide (HA.out.cut hi HC.out.1)
  have hl1:([]:List (List UInt8)).length+i≤2000000:=by simp;omega
  have hl2:([]++L.take i:List (List UInt8)).length≤1000000:=by rw[List.nil_append,HTl.out i hi];omega
  have HL3:=hide (show ([]++L.take i++[s]:List (List UInt8)).length+(n-i)≤2000000 by rw[List.nil_append,List.length_append,HTl.out i hi,List.length_singleton];omega)
  by_cases hlt:i<n
  ·have hiI:(i:Int)<(n:Int):=by omega
   have hd0:decide ((i:Int)<(n:Int))=true:=decide_eq_true hiI
   rcases HA.out.2 with hn0 | ⟨b1,o1,rfl,_,hc1⟩
   ·omega
   have e1:=hc1 i hlt
   have hltL:i<n:=hlt
   have HOn2:=hide (fun hb=>HOn.out i hlt hb HR.out)
   have HSame2:=hide (fun hb he=>HSame.out i hlt hb he HR.out)
   have HIn2:=hide (fun hb he=>HIn.out i hlt hb he HR.out)
   obtain⟨y,hy⟩:∃ y,y=L.getD i []:=⟨_,rfl⟩
   rw[← hy]at e1 HOn2 HSame2 HIn2
   clear hc1 hy
   cases hb:Op.bytesLess y s with
   | true =>
    have HRn:=hide (HOn2.out hb)
    go_wp2
    go_roundw
    case rel=>exact⟨i+1,by omega,by go_num,HRn.out,trivial⟩
    case measure=>simp[intOf];omega
   | false =>
    by_cases he:y=s
    ·have heb:(y==s)=true:=by simpa using he
     have HRn:=hide (HSame2.out hb he)
     clear he
     go_wp2
     go_ret
     rw[HRn.out]
     exact⟨some ⟨b1,o1,none⟩,c,by rw[HN.out];rfl,by rw[HN.out];exact HC.out.1,HC.out.2,by rw[HN.out];exact HA.out,Ext.refl _⟩
    ·have heb:(y==s)=false:=by simpa using he
     have HRn:=hide (HIn2.out hb he)
     clear he
     go_wp2_with (first
      | (at_builtin;refine xw (L:=[]) rfl (.tmp 34) (.tmp 37) rfl rfl (OwnTx.nil wr wr.heap.size) rfl HT1.out hl1 (Nat.le_refl _) ?_;intro v1 w1 hO1 hG1 hN1;have HO1:=hide hO1;have HE1:=hide (show Ext wr w1 from Below.grown (Ext.refl _) hG1 (Nat.le_refl _) (fun k hk=>by cases hk));clear hO1 hG1 hN1)
      | (at_builtin;refine yx (L:=[]++L.take i) rfl (.tmp 39) (.tmp 41) rfl HE1.out HO1.out rfl s rfl hl2 ?_;intro v2 w2 hO2 hE2;have HO2:=hide hO2;have HE2:=hide hE2;have HB2:=hide (HT2.out.later hE2);clear hO2 hE2)
      | (at_builtin;refine xw rfl (.tmp 43) (.tmp 46) rfl rfl HO2.out rfl HB2.out HL3.out HE2.out.le ?_;intro v3 w3 hO3 hG3 hN3))
     go_ret
     rw[HRn.out]at hO3
     obtain⟨A3,c3,rfl,q1,q2,q3⟩:=hO3.form
     exact⟨A3,c3,rfl,q1,q2,q3,Below.grown HE2.out hG3 HE2.out.le (fun k hk=>(HO2.out.lt k hk).1)⟩
  ·obtain rfl:n=i:=by omega
   have hd0:decide ((n:Int)<(n:Int))=false:=decide_eq_false (by omega)
   have HRn:=hide (HEnd.out HR.out)
   rw[Nat.sub_self]at HT2 HL3
   go_wp2_with (first
    | (at_builtin;refine xw (L:=[]) rfl (.tmp 34) (.tmp 37) rfl rfl (OwnTx.nil wr wr.heap.size) rfl HT1.out hl1 (Nat.le_refl _) ?_;intro v1 w1 hO1 hG1 hN1;have HO1:=hide hO1;have HE1:=hide (show Ext wr w1 from Below.grown (Ext.refl _) hG1 (Nat.le_refl _) (fun k hk=>by cases hk));clear hO1 hG1 hN1)
    | (at_builtin;refine yx (L:=[]++L.take n) rfl (.tmp 39) (.tmp 41) rfl HE1.out HO1.out rfl s rfl hl2 ?_;intro v2 w2 hO2 hE2;have HO2:=hide hO2;have HE2:=hide hE2;have HB2:=hide (HT2.out.later hE2);clear hO2 hE2)
    | (at_builtin;refine xw rfl (.tmp 43) (.tmp 46) rfl rfl HO2.out rfl HB2.out HL3.out HE2.out.le ?_;intro v3 w3 hO3 hG3 hN3))
   go_ret
   rw[HRn.out]at hO3
   obtain⟨A3,c3,rfl,q1,q2,q3⟩:=hO3.form
   exact⟨A3,c3,rfl,q1,q2,q3,Below.grown HE2.out hG3 HE2.out.le (fun k hk=>(HO2.out.lt k hk).1)⟩
end
section
open Go.RowKit Wrd
theorem VF (W:World)(l:List UInt8)(hl:l.length≤8388608):(Op.stringOp .add ⟨#[64]⟩ ⟨l.toArray⟩).run Tryz.prog W=.ok (.string ⟨(64::l).toArray⟩) W:=by
 have:=run_string_add_lists (P:=Tryz.prog) W [64] l (by simp) (by omega)
 exact this
theorem Wrd.puts_len:∀ (l out:List (List UInt8)),(l.foldl zM out).length≤out.length+l.length
 | [],out=>by simp
 | s::l,out=>by
  have h1:=puts_len l (zM out s)
  have h2:=YD s out
  rw[List.foldl_cons,List.length_cons]
  omega
theorem Wrd.puts_at {l out:List (List UInt8)}{i:Nat}(h:i<l.length):(l.take (i+1)).foldl zM out=zM ((l.take i).foldl zM out) (l.getD i []):=by
 rw[take_tx h,List.foldl_append]
 rfl
def QN (t lv:Int)(src text:List UInt8):Value:=.agg #[.int .u64 t,.int .u8 lv,.string ⟨src.toArray⟩,.string ⟨text.toArray⟩]
attribute [local go_sem ↓] yn z7 z8
set_option maxHeartbeats 2000000 in
set_option maxRecDepth 10000 in
theorem Y4 (t lv:Int)(src text:List UInt8)(w:World)(h1:src.length≤20000)(h2:text.length≤20000) :
  Calls Tryz.prog 65 #[QN t lv src text] w (vN w (xh text src)):=by
 unfold QN
 have hE1:=zb w (.cells #[.int .u64 t,.int .u8 lv,.string ⟨src.toArray⟩,.string ⟨text.toArray⟩] 39)
 have hW1:=Whole.new w 39 #[.int .u64 t,.int .u8 lv,.string ⟨src.toArray⟩,.string ⟨text.toArray⟩]
 obtain⟨w1,hw1⟩:∃ x,x=w.alloc (.cells #[.int .u64 t,.int .u8 lv,.string ⟨src.toArray⟩,.string ⟨text.toArray⟩] 39):=⟨_,rfl⟩
 rw[← hw1]at hE1 hW1
 have C1:=jE text w1 (by omega)
 have C2:=hide (fun W=>jE src W (by omega))
 have HEv:=hide (show xh text src=((zv src).map fun w=>64::w).foldl zM ((zv text).foldl zM []) from rfl)
 have HL1:=hide (xm text)
 have HL2:=hide (xm src)
 have HEach:=hide (fun z (hz:z∈zv src)=>(jP hz).1.2)
 generalize zv text=ws at *
 generalize zv src=vs at *
 generalize xh text src=res at *
 have HT1:=hide (fun (i:Nat) (hi:i<ws.length)=>puts_at (out:=[]) hi)
 have HW1:=hide hW1
 have HWd:=hide hw1
 have HE1:=hide hE1
 have H2:=hide h2
 have H1:=hide h1
 rw[hw1]at C1
 unfold vN at C1 C2 ⊢
 clear hE1 hW1 hw1
 go_enter Tryz.func65,Tryz.ntmps65
 go_wp2_with fail
 refine C1.mono ?_
 rintro e w2 ⟨A2,c2,rfl,p1,p2,p3,hE2⟩
 rw[← HWd.out]at hE2
 have hp1:ws.length≤20000:=by have:=HL1.out;have:=H2.out;omega
 have HP:=hide p3
 have HE2:=hide hE2
 have HC:=hide (And.intro p1 p2)
 have hWn:ws.length≤ws.length:=Nat.le_refl _
 obtain⟨n,hn⟩:∃ n,n=ws.length:=⟨_,rfl⟩
 rw[← hn]at HP hp1 ⊢
 have HN:=hide hn
 clear C1 p1 p2 p3 hE2 hn hWn
 go_wp2
 go_loopw [5,3] (fun x u wr=>∃ (i:Nat) (B:Option Addr) (d:Nat),i≤n∧x=.int .i64 (i:Int)∧u=.slice B ((ws.take i).foldl zM []).length d∧((ws.take i).foldl zM []).length≤d∧d≤maxLen∧TextsAt wr wr.heap.size B ((ws.take i).foldl zM []).length ((ws.take i).foldl zM [])∧Ext w2 wr) (fun x _ _=>n-(intOf x).toNat)
 case atStart=>exact⟨0,none,0,by omega,rfl,rfl,by simp,by unfold maxLen;omega,⟨rfl,.inl rfl⟩,Ext.refl _⟩
 case round =>
  obtain⟨i,B,d,hi,rfl,rfl,hd1,hd2,hI,hE⟩:=hrel
  by_cases hlt:i<n
  ·have hiI:(i:Int)<(n:Int):=by omega
   rcases (HP.out.later hE).2 with hn0 | ⟨b1,o1,rfl,_,hc1⟩
   ·omega
   have e1:=hc1 i hlt
   have HT:=hide (HT1.out i (by rw[← HN.out];exact hlt))
   have hPl:=puts_len (ws.take i) []
   rw[List.length_take]at hPl
   obtain⟨P,hP0⟩:∃ P,P=(ws.take i).foldl zM []:=⟨_,rfl⟩
   rw[← hP0]at hd1 hI HT hPl ⊢
   obtain⟨y,hy⟩:∃ y,y=ws.getD i []:=⟨_,rfl⟩
   rw[← hy]at e1 HT
   have hPl2:P.length≤100000:=by simp at hPl;omega
   have CP:=ut B P.length d P y wr hI hd1 hd2 hPl2
   unfold vN at CP
   have HE:=hide hE
   clear hy hP0 hI hd1 hPl hc1 hE
   go_wp2_with fail
   refine CP.mono ?_
   rintro e w5 ⟨B5,d5,rfl,q1,q2,q3,hE5⟩
   rw[← HT.out]at q1 q3 ⊢
   have HQ:=hide (And.intro q1 (And.intro q2 (And.intro q3 (HE.out.trans hE5))))
   clear CP q1 q2 q3 hE5 e1
   generalize hR:(ws.take (i+1)).foldl zM []=R at *
   go_wp2
   go_roundw
   case rel=>exact⟨i+1,B5,d5,by omega,by go_num,by rw[hR],by rw[hR];exact HQ.out.1,HQ.out.2.1,by rw[hR];exact HQ.out.2.2.1,HQ.out.2.2.2⟩
   case measure=>simp[intOf];omega
  ·obtain rfl:n=i:=by omega
   have hall:ws.take n=ws:=List.take_of_length_le (by rw[HN.out];exact Nat.le_refl _)
   rw[hall]at hd1 hI ⊢
   have hPl:=puts_len ws []
   obtain⟨P,hP0⟩:∃ P,P=ws.foldl zM []:=⟨_,rfl⟩
   rw[← hP0]at hd1 hI hPl HEv ⊢
   have hPl2:P.length≤20000:=by rw[← HN.out]at hPl;simp at hPl;omega
   have f1:=((HW1.out.ext HE2.out).ext hE).at 2 (u:=.string ⟨src.toArray⟩) rfl
   have C3:=C2.out wr
   have HT2:=hide (fun (i:Nat) (hi:i<(vs.map fun w=>64::w).length)=>puts_at (out:=P) hi)
   have HI:=hide hI
   have HE:=hide (HE1.out.trans (HE2.out.trans hE))
   have HD:=hide (And.intro hd1 hd2)
   clear hI hE hd1 hd2 hall hP0 hPl
   go_wp2_with fail
   refine C3.mono ?_
   rintro e w6 ⟨A6,c6,rfl,p1,p2,p3,hE6⟩
   have hm1:vs.length≤20000:=by have:=HL2.out;have:=H1.out;omega
   have HP6:=hide p3
   have HI6:=hide (HI.out.later hE6)
   have HE6:=hide (HE.out.trans hE6)
   obtain⟨m,hm⟩:∃ m,m=vs.length:=⟨_,rfl⟩
   rw[← hm]at HP6 hm1 ⊢
   have HM:=hide hm
   clear C3 p1 p2 p3 hE6 hm f1 HI HE
   go_wp2
   go_loopw [6,3] (fun x u wr=>∃ (i:Nat) (B:Option Addr) (d:Nat),i≤m∧x=.int .i64 (i:Int)∧u=.slice B (((vs.map fun w=>64::w).take i).foldl zM P).length d∧(((vs.map fun w=>64::w).take i).foldl zM P).length≤d∧d≤maxLen∧TextsAt wr wr.heap.size B (((vs.map fun w=>64::w).take i).foldl zM P).length (((vs.map fun w=>64::w).take i).foldl zM P)∧Ext w6 wr) (fun x _ _=>m-(intOf x).toNat)
   case atStart=>exact⟨0,B,d,by omega,rfl,rfl,HD.out.1,HD.out.2,HI6.out,Ext.refl _⟩
   case round =>
    clear HD HI6
    obtain⟨i,B,d,hi,rfl,rfl,hd1,hd2,hI,hE⟩:=hrel
    by_cases hlt:i<m
    ·have hiI:(i:Int)<(m:Int):=by omega
     rcases (HP6.out.later hE).2 with hn0 | ⟨b1,o1,rfl,_,hc1⟩
     ·omega
     have e1:=hc1 i hlt
     have hltv:i<vs.length:=by rw[← HM.out];exact hlt
     have HT:=hide (HT2.out i (by rw[List.length_map];exact hltv))
     have hg:(vs.map fun w=>64::w).getD i []=64::vs.getD i []:=by simp[List.getD_eq_getElem?_getD,hltv]
     rw[hg]at HT
     have hPl:=puts_len ((vs.map fun w=>64::w).take i) P
     rw[List.length_take]at hPl
     obtain⟨R,hR0⟩:∃ R,R=((vs.map fun w=>64::w).take i).foldl zM P:=⟨_,rfl⟩
     rw[← hR0]at hd1 hI HT hPl ⊢
     have hy24:=HEach.out (vs.getD i []) (mem_at hltv)
     obtain⟨y,hy⟩:∃ y,y=vs.getD i []:=⟨_,rfl⟩
     rw[← hy]at e1 HT hy24
     have hadd:=fun W=>VF W y (by omega)
     have hPl2:R.length≤100000:=by omega
     have CP:=ut B R.length d R (64::y) wr hI hd1 hd2 hPl2
     unfold vN at CP
     have HE:=hide hE
     clear hy hR0 hI hd1 hPl hc1 hE hg hltv hy24
     go_wp2_with fail
     refine CP.mono ?_
     rintro e w7 ⟨B7,d7,rfl,q1,q2,q3,hE7⟩
     rw[← HT.out]at q1 q3 ⊢
     have HQ:=hide (And.intro q1 (And.intro q2 (And.intro q3 (HE.out.trans hE7))))
     clear CP q1 q2 q3 hE7 e1 hadd
     generalize hR:(((vs.map fun w=>64::w).take (i+1)).foldl zM P)=R7 at *
     go_wp2
     go_roundw
     case rel=>exact⟨i+1,B7,d7,by omega,by go_num,by rw[hR],by rw[hR];exact HQ.out.1,HQ.out.2.1,by rw[hR];exact HQ.out.2.2.1,HQ.out.2.2.2⟩
     case measure=>simp[intOf];omega
    ·obtain rfl:m=i:=by omega
     have hall:(vs.map fun w=>64::w).take m=vs.map fun w=>64::w:=List.take_of_length_le (by rw[List.length_map,HM.out];exact Nat.le_refl _)
     rw[hall,← HEv.out]at hd1 hI ⊢
     have HI:=hide hI
     have HE:=hide (HE6.out.trans hE)
     have HD:=hide (And.intro hd1 hd2)
     clear hI hE hd1 hd2 hall
     go_wp2
     go_ret
     exact⟨B,d,rfl,HD.out.1,HD.out.2,HI.out,HE.out⟩
end
section
open Go.RowKit Len Can
def acF (w:World)(r:List Nat×Int)(e:Ending)(w':World):Prop:=∃ v,e=.returned (.tuple #[v,.int .i64 r.2])∧OwnH w' w.heap.size v r.1∧Ext w w'
set_option maxHeartbeats 4000000 in
set_option maxRecDepth 100000 in
theorem Uu (A:Option Addr)(n c:Nat)(l:List UInt8)(w:World)(h:Bytes w w.heap.size A n l):Calls Tryz.prog 149 #[.slice A n c] w (acF w (yH l)):=by
 have hl:=h.1
 subst hl
 have C1:=qF A l.length c l w h
 cases hr:right l with
 | false =>
  have HN:=hide (show yH l=([],7) by unfold yH;rw[hr];rfl)
  rw[yw hr]at C1
  generalize yH l=res at *
  clear hr h
  go_enter Tryz.func149,Tryz.ntmps149
  go_wp2_with fail
  refine C1.mono ?_
  rintro e w2 ⟨rfl,hE⟩
  go_wp2
  go_ret2
  rw[HN.out]
  exact⟨_,rfl,OwnH.nil _ _,hE⟩
 | true =>
  have HN:=hide (show yH l=(zW l,0) by unfold yH;rw[hr];rfl)
  rw[zU hr]at C1
  obtain⟨h300,h15,_⟩:=zD hr
  have HR:=hide hr
  have H15:=hide h15
  have HSt:=hide (Words.start (l:=l))
  generalize yH l=res at *
  clear hr h15
  obtain⟨N,hN⟩:∃ N,N=l.length:=⟨_,rfl⟩
  have HNl:=hide hN
  rw[← hN]at C1 h300 ⊢
  rw[← hN]at h
  have HB:=hide h
  clear hN h
  go_enter Tryz.func149,Tryz.ntmps149
  go_wp2_with fail
  refine C1.mono ?_
  rintro e w2 ⟨rfl,hE⟩
  clear C1
  go_wp2_with fail
  go_loopw [4,5] (fun a b wr=>∃ k:Nat,k≤N∧b=.int .i64 (k:Int)∧OwnH wr w.heap.size a (List.replicate k 0)∧Ext w wr) (fun _ b _=>N-(intOf b).toNat)
  case atStart=>exact⟨0,by omega,rfl,OwnH.nil _ _,hE⟩
  case round =>
   obtain⟨k,hk,rfl,hO,hE2⟩:=hrel
   by_cases hkj:k<N
   ·have hkI:(k:Int)<(N:Int):=by omega
    have hEa:=zb wr (.cells #[.int .u16 0] 191)
    have hOa:=hO.ext hEa
    have hsb:=hE2.le
    have hl0:(List.replicate k (0:Nat)).length≤1000:=by simp;omega
    go_wp2_with (at_builtin;refine Jq rfl (.tmp 21) (.tmp 22) rfl rfl 0 hOa rfl hl0 hsb ?_;intro v5 w5 hO5 hG5)
    have hE5:Ext w w5:=Below.grown (hE2.trans hEa) hG5 (hE2.trans hEa).le (fun k hk=>(hO.lt k hk).1)
    have e:List.replicate k (0:Nat)++[0]=List.replicate (k+1) 0:=List.replicate_succ'.symm
    rw[e]at hO5
    go_roundw
    case rel=>exact⟨k+1,by omega,by go_num,hO5,hE5⟩
    case measure=>simp[intOf];omega
   ·obtain rfl:N=k:=by omega
    clear hkj hk
    have hst:=HSt.out
    rw[← HNl.out]at hst
    obtain⟨Z,hZ⟩:∃ Z,Z=List.replicate N (0:Nat):=⟨_,rfl⟩
    have hZl:Z.length=N:=by rw[hZ];simp
    rw[← hZ]at hO hst
    obtain⟨Av,cv,rfl,hcv,_,hav⟩:=hO.form
    rw[hZl]at hcv ⊢
    have HO:=hide hO
    have HS:=hide hst
    have HZl:=hide hZl
    clear hZ hO hst hZl
    obtain⟨wa,rfl⟩:∃ W,W=wr:=⟨_,rfl⟩
    go_wp2_with fail
    go_loopw [6,7,8,9] (fun a b d x wq=>∃ (k nx was:Nat) (any:Bool) (O:List Nat),1≤k∧k≤16∧x=.int .i64 (k:Int)∧a=.int .i64 (nx:Int)∧b=.int .i64 (was:Int)∧d=.bool any∧Words l k 0 nx was any O∧OwnH wq w.heap.size (.slice Av N cv) O∧Ext w wq) (fun _ _ _ x _=>17-(intOf x).toNat)
    case atStart=>exact⟨1,0,0,false,Z,by omega,by omega,rfl,rfl,rfl,rfl,HS.out,by have:=HO.out;rw[HZl.out]at this;exact this,hE2⟩
    case round =>
     obtain⟨k,nx,was,any,O,hk1,hk16,rfl,rfl,rfl,rfl,hW,hO,hE3⟩:=hrel
     by_cases hk15:k≤15
     ·have hkI:(k:Int)≤15:=by omega
      have HW0:=hide hW
      have HO0:=hide hO
      obtain⟨wb,rfl⟩:∃ W,W=wr:=⟨_,rfl⟩
      clear hW hO
      go_wp2_with fail
      go_loopw [6,7,8,10] (fun a b d x wq=>∃ (s nx was:Nat) (any:Bool) (O:List Nat),s≤N∧x=.int .i64 (s:Int)∧a=.int .i64 (nx:Int)∧b=.int .i64 (was:Int)∧d=.bool any∧Words l k s nx was any O∧OwnH wq w.heap.size (.slice Av N cv) O∧Ext w wq) (fun _ _ _ x _=>N-(intOf x).toNat)
      case atStart=>exact⟨0,nx,was,any,O,Nat.zero_le _,rfl,rfl,rfl,rfl,HW0.out,HO0.out,hE3⟩
      case round =>
       clear HW0 HO0 hE3
       obtain⟨s,nx,was,any,O,hs,rfl,rfl,rfl,rfl,hW,hO,hE3⟩:=hrel
       have hsm:=hW.small HR.out
       have HW:=hide hW
       have HO1:=hide hO
       by_cases hsN:s<N
       ·have hsI:(s:Int)<(N:Int):=by omega
        rcases (hE3.bytes HB.out).2 with h0 | ⟨b,off,rfl,hbl,hc⟩
        ·omega
        have hcell:=hc s hsN
        have hy8:=UInt8.toNat_lt (l.getD s 0)
        obtain⟨y,hy⟩:∃ y,y=zg l s:=⟨_,rfl⟩
        have hcl:wr.cell? ⟨b,off+s,none⟩=some (.int .u8 (y:Int)):=by rw[hy];exact hcell
        have hy8':y<256:=by rw[hy];exact hy8
        have HY:=hide hy
        clear hc hcell hy8 hy hW
        by_cases hyk:y=k
        ·have hyb:((y:Int) != (k:Int))=false:=by simp[hyk]
         have HYk:=hide hyk
         clear hyk
         have hput:=HW.out.put hk1 hk15 (by rw[← HNl.out];exact hsN) (by rw[← HY.out];exact HYk.out)
         have hpsm:=hput.small HR.out
         obtain⟨gO,rfl,hgb,hgl⟩:∃ g,Av=some ⟨g,0,none⟩∧w.heap.size≤g∧g<wr.heap.size:=by
          obtain⟨A9,c9,e9,_,_,h9⟩:=hO.form
          simp only[Value.slice.injEq]at e9
          obtain⟨rfl,e10,rfl⟩:=e9
          rcases h9 with h9 | ⟨g,e,hg⟩
          ·omega
          ·exact⟨g,e,hg⟩
         have hOl:O.length=N:=by rw[HW.out.len,← HNl.out]
         rw[← hOl]at hO
         obtain⟨k1,k2⟩:=hO.cell (i:=s) (by omega)
         have hset:=fun x=>hO.set s x
         rw[hOl]at hset
         have HSet:=hide hset
         clear hset hO hOl
         cases any with
         | false =>
          have hw16:IntKind.u16.wrap (nx:Int)=(nx:Int):=by simp[IntKind.wrap,IntKind.bits,IntKind.signed];omega
          have hG:=zk wr gO s (.int .u16 (nx:Int))
          have HPut:=hide hput
          clear hput
          go_wp2
          go_roundw
          case rel=>exact⟨s+1,nx,k,true,O.set s nx,by omega,by go_num,rfl,rfl,rfl,HPut.out,HSet.out nx,Below.grown hE3 hG hE3.le (fun j hj=>by cases hj;exact hgb)⟩
          case measure=>simp[intOf];omega
         | true =>
          have hy3:=HW.out.yes rfl
          have HPut:=hide hput
          have hwk:was≤k:=hy3.2.2
          have hw1:1≤was:=hy3.2.1
          clear hput hy3
          obtain⟨wc,rfl⟩:∃ W,W=wr:=⟨_,rfl⟩
          have HSm:=hide (show ∀ j,j≤k→was≤j→(nx+1)*2 ^ (j-was)≤32768 from fun j hj1 hj2=>by
           have h1:jD true nx was k<32768:=hpsm
           unfold jD at h1
           rw[if_pos rfl]at h1
           have h2:2 ^ (j-was)≤2 ^ (k-was):=Nat.pow_le_pow_right (by omega) (by omega)
           have h3:=Nat.mul_le_mul_left (nx+1) h2
           omega)
          go_wp2_with fail
          go_loopw [6,11] (fun a x wq=>∃ j v:Nat,was≤j∧j≤k∧x=.int .i64 (j:Int)∧a=.int .i64 (v:Int)∧v=(nx+1)*2 ^ (j-was)∧wq=wc) (fun _ x _=>k-(intOf x).toNat)
          case atStart=>exact⟨was,nx+1,Nat.le_refl _,hwk,rfl,by go_num,by simp,rfl⟩
          case round =>
           obtain⟨j,v,hj1,hj2,rfl,rfl,hv,rfl⟩:=hrel
           have hvs:v≤32768:=by rw[hv];exact HSm.out j hj2 hj1
           by_cases hjk:j<k
           ·have hjI:(j:Int)<(k:Int):=by omega
            have HV:=hide (show 2*v=(nx+1)*2 ^ (j+1-was) by rw[hv,show j+1-was=(j-was)+1 by omega,Nat.pow_succ,Nat.mul_comm 2,Nat.mul_assoc])
            clear hv
            go_wp2
            go_roundw
            case rel=>exact⟨j+1,2*v,by omega,by omega,by go_num,by go_num,HV.out,trivial⟩
            case measure=>simp[intOf];omega
           ·obtain rfl:j=k:=by omega
            have hv2:v=jD true nx was j:=by unfold jD;rw[if_pos rfl];exact hv
            have hP2:=HPut.out
            rw[← hv2]at hP2
            have HP2:=hide hP2
            have hvl:v<32768:=hP2.small HR.out
            have hw16:IntKind.u16.wrap (v:Int)=(v:Int):=by simp[IntKind.wrap,IntKind.bits,IntKind.signed];omega
            have hG:=zk wr gO s (.int .u16 (v:Int))
            clear hv hv2 hP2
            go_wp2
            go_roundw
            case rel=>exact⟨s+1,v,j,true,O.set s v,by omega,by go_num,rfl,rfl,rfl,HP2.out,HSet.out v,Below.grown hE3 hG hE3.le (fun j hj=>by cases hj;exact hgb)⟩
            case measure=>simp[intOf];omega
        ·have hyb:((y:Int) != (k:Int))=true:=by simp;omega
         have HP:=hide (HW.out.pass hk1 (by rw[← HNl.out];exact hsN) (by rw[← HY.out];exact hyk))
         clear hO
         go_wp2
         go_roundw
         case rel=>exact⟨s+1,nx,was,any,O,by omega,by go_num,rfl,rfl,rfl,HP.out,HO1.out,hE3⟩
         case measure=>simp[intOf];omega
       ·have hs2:s=N:=by omega
        have hnI:¬ (s:Int)<(N:Int):=by omega
        have hW2:=HW.out
        rw[hs2,HNl.out]at hW2
        have HP:=hide hW2.turn
        clear hW2 hW hO hs2
        go_wp2
        go_roundw
        case rel=>exact⟨k+1,nx,was,any,O,by omega,by omega,by go_num,rfl,rfl,rfl,HP.out,HO1.out,hE3⟩
        case measure=>simp[intOf];omega
     ·obtain rfl:k=16:=by omega
      have hOe:=hW.all HR.out
      have HOe:=hide hOe
      have HO1:=hide hO
      clear hW hO hOe
      go_wp2
      go_ret2
      rw[HN.out]
      exact⟨_,rfl,by rw[← HOe.out];exact HO1.out,hE3⟩
end
section
open Go.RowKit
def RowOf (w:World)(B:Nat)(x:Value)(l:List UInt8):Prop:=∃ A k,x=.slice A l.length k∧l.length≤k∧k≤maxLen∧Bytes w B A l.length l
def RowsAt (w:World)(B:Nat)(A:Option Addr)(n:Nat)(ls:List (List UInt8)):Prop :=
 ls.length=n∧(n=0∨∃ b off,A=some ⟨b,off,none⟩∧b<B∧∀ i,i<n→∃ x,w.cell? ⟨b,off+i,none⟩=some x∧RowOf w B x (ls.getD i []))
section
variable {w w':World}{B n:Nat}{x:Value}{l:List UInt8}{A:Option Addr}{ls:List (List UInt8)}
theorem RowOf.ext (h:RowOf w w.heap.size x l)(hE:Ext w w'):RowOf w' w'.heap.size x l:=by
 obtain⟨A,k,h1,h2,h3,h4⟩:=h
 exact⟨A,k,h1,h2,h3,hE.bytes h4⟩
theorem OwnB.row {base:Nat}(h:OwnB w base x l):RowOf w w.heap.size x l:=by
 obtain⟨A,c,h1,h2,h3,h4⟩:=h.form
 exact⟨A,c,h1,h2,h3,h4⟩
end
theorem aaF:(Tryz.prog.info? 29).map (fun i=>(i.zero,i.size,i.bytes))=some (some (.slice none 0 0),1,24):=by kernel_rfl
def Clear (v x:Value):Prop:=∀ A n k,x=.slice A n k→n=0∨∀ b off,A=some ⟨b,off,none⟩→v.ownBlock≠some b
structure OwnP (w:World)(base:Nat)(v:Value)(ls:List (List UInt8)):Prop where
 own:∃ R:Nat→Value,w.ownsRow base 29 1 v ls.length ((List.range ls.length).map R)∧∀ i,i<ls.length→RowOf w w.heap.size (R i) (ls.getD i [])∧Clear v (R i)
section
variable {w w':World}{base:Nat}{v x:Value}{l:List UInt8}{ls:List (List UInt8)}
theorem OwnP.nil (w:World)(base:Nat):OwnP w base (.slice none 0 0) []:=⟨fun _=>default,World.ownsRow_nil w base _ _,fun i hi=>absurd hi (by simp)⟩
theorem OwnP.ext (h:OwnP w base v ls)(hE:Ext w w'):OwnP w' base v ls:=by
 obtain⟨R,h1,h2⟩:=h.own
 exact⟨R,World.ownsRow.kept h1 (hE.grown none) (by cases hv:v.ownBlock<;>simp),fun i hi=>⟨(h2 i hi).1.ext hE,(h2 i hi).2⟩⟩
theorem OwnP.lt (h:OwnP w base v ls):∀ k,v.ownBlock=some k→base≤k∧k<w.heap.size:=by
 obtain⟨R,h1,_⟩:=h.own
 exact h1.lt
theorem OwnP.mono {b':Nat}(h:OwnP w base v ls)(hb:b'≤base):OwnP w b' v ls:=by
 obtain⟨R,h1,h2⟩:=h.own
 exact⟨R,⟨h1.1,h1.2.elim Or.inl fun ⟨g,cap,cur,hv,hg,r⟩=>Or.inr ⟨g,cap,cur,hv,Nat.le_trans hb hg,r⟩⟩,h2⟩
theorem OwnP.form (h:OwnP w base v ls):∃ A c,v=.slice A ls.length c∧ls.length≤c∧c≤maxLen∧RowsAt w w.heap.size A ls.length ls:=by
 obtain⟨R,h1,h2⟩:=h.own
 have hl:=h1.lt
 rcases h1.2 with ⟨rfl,h0⟩ | ⟨g,cap,cur,rfl,hb,hg,hn,hc,hs,ht⟩
 ·exact⟨none,0,by rw[h0],by omega,by unfold maxLen;omega,rfl,.inl h0⟩
 ·refine⟨_,cap,rfl,hn,hc,rfl,.inr ⟨g,0,rfl,(hl g rfl).2,fun i hi=>⟨R i,?_,(h2 i hi).1⟩⟩⟩
  rw[Nat.zero_add,World.ownsRow.cellAt h1 i (by omega)]
  simp[hi]
theorem Clear.later {v':Value}{H:Nat}(hc:Clear v x)(hx:RowOf w w.heap.size x l)(hH:w.heap.size≤H)(hN:v'.ownBlock=v.ownBlock∨v'.ownBlock=some H):Clear v' x:=by
 intro A n k e
 obtain⟨A',k',e',_,_,h4⟩:=hx
 rw[e']at e
 simp only[Value.slice.injEq]at e
 obtain⟨rfl,rfl,rfl⟩:=e
 rcases hc _ _ _ e' with h0|h1
 ·exact .inl h0
 rcases h4.2 with h0 | ⟨b,off,rfl,hB,_⟩
 ·exact .inl h0
 ·refine .inr fun b' off' e2=>?_
  simp only[Option.some.injEq,Addr.mk.injEq,and_true]at e2
  obtain⟨rfl,rfl⟩:=e2
  rcases hN with h|h
  ·rw[h]
   exact h1 _ _ rfl
  ·rw[h]
   intro e3
   injection e3 with e3
   omega
theorem Clear.own {H:Nat}(hx:OwnB w H x l)(hv:∀ k,v.ownBlock=some k→k<H):Clear v x:=by
 intro A n k e
 rcases hx.2 with ⟨rfl,h0⟩ | ⟨g,cap,cur,rfl,hb,_⟩
 ·simp only[Value.slice.injEq]at e
  exact .inl e.2.1.symm
 ·refine .inr fun b off e2 h=>?_
  simp only[Value.slice.injEq]at e
  rw[← e.1]at e2
  simp only[Option.some.injEq,Addr.mk.injEq,and_true]at e2
  have:=hv _ h
  omega
theorem RowOf.grown (hx:RowOf w w.heap.size x l)(hc:Clear v x)(hG:w.grownBy w' v.ownBlock):RowOf w' w'.heap.size x l:=by
 obtain⟨A,k,e,h2,h3,h4⟩:=hx
 refine⟨A,k,e,h2,h3,h4.1,?_⟩
 rcases hc _ _ _ e with h0|h1
 ·exact .inl h0
 rcases h4.2 with h0 | ⟨b,off,rfl,hB,hcell⟩
 ·exact .inl h0
 ·refine .inr ⟨b,off,rfl,Nat.lt_of_lt_of_le hB hG.size,fun i hi=>?_⟩
  rw[← hcell i hi]
  exact World.cell?_of_block (a:=⟨b,off+i,none⟩) (hG.block b hB (fun e=>h1 b off rfl e.symm))
theorem OwnP.app {R:Nat→Value}(h2:∀ i,i<ls.length→RowOf w w.heap.size (R i) (ls.getD i [])∧Clear v (R i)){v':Value}{H:Nat}{ms:List (List UInt8)}{X:Nat→Value}(hX:∀ i,i<ms.length→RowOf w w.heap.size (X i) (ms.getD i [])∧Clear v (X i))(hH:w.heap.size≤H)
  (hO:w'.ownsRow base 29 1 v' (ls.length+ms.length) ((List.range ls.length).map R++(List.range ms.length).map X))
  (hG:w.grownBy w' v.ownBlock) (hN:v'.ownBlock=v.ownBlock∨v'.ownBlock=some H):OwnP w' base v' (ls++ms):=by
 refine⟨fun i=>if i<ls.length then R i else X (i-ls.length),?_,fun i hi=>?_⟩
 ·have e:(List.range (ls++ms).length).map (fun i=>if i<ls.length then R i else X (i-ls.length))=(List.range ls.length).map R++(List.range ms.length).map X:=by
   apply List.ext_getElem?
   intro i
   rw[List.length_append]
   by_cases hi:i<ls.length
   ·rw[List.getElem?_append_left (by simpa using hi)]
    simp[hi,show i<ls.length+ms.length by omega]
   ·rw[List.getElem?_append_right (by simpa using Nat.le_of_not_lt hi)]
    by_cases hi2:i<ls.length+ms.length
    ·simp[hi,hi2,show i-ls.length<ms.length by omega]
    ·rw[List.getElem?_eq_none (by simp;omega),List.getElem?_eq_none (by simp;omega)]
  rw[e,List.length_append]
  exact hO
 ·rw[List.length_append]at hi
  by_cases hil:i<ls.length
  ·obtain⟨a,b⟩:=h2 i hil
   have e:(ls++ms).getD i []=ls.getD i []:=by simp[List.getD_eq_getElem?_getD,List.getElem?_append_left hil]
   simp only[hil,if_true]
   rw[e]
   exact⟨a.grown b hG,b.later a hH hN⟩
  ·obtain⟨a,b⟩:=hX (i-ls.length) (by omega)
   have e:(ls++ms).getD i []=ms.getD (i-ls.length) []:=by simp[List.getD_eq_getElem?_getD,List.getElem?_append_right (Nat.le_of_not_lt hil)]
   simp only[hil,if_false]
   rw[e]
   exact⟨a.grown b hG,b.later a hH hN⟩
end
section
variable {o:Oper}{a:Act}{K:Act→World→Prop}{Q:Exit→Act→World→Prop}{w:World}{base:Nat}{v:Value}{ls:List (List UInt8)}
theorem uV {ops:Array Oper}{rest:List Oper}(hgd:o.guard=none)(s x:Operand)(ho:o.op=.call { callee:=.builtin .append,args:=#[s,x],argTypes:=#[47,47] })(hs:a.eval s=v){A:Option Addr}{m k:Nat}{l:List UInt8}
  (h:OwnP w base v ls) (hr:RowOf w w.heap.size (.slice A m k) l) (hcl:Clear v (.slice A m k)) {c:Nat} (hx:a.eval x=.slice (some ⟨w.heap.size,0,none⟩) 1 c) (hlen:ls.length≤1000) (hbase:base≤w.heap.size)
  (hk:∀ v' w',OwnP w' base v' (ls++[l])→(w.alloc (.cells #[.slice A m k] 29)).grownBy w' v.ownBlock→wpList Tryz.prog ops Q rest (a.put o.dst v') w') :
  wpList Tryz.prog ops Q (o::rest) a (w.alloc (.cells #[.slice A m k] 29)):=by
 obtain⟨i,hi,hz,hsz,hby⟩:=info_parts aaF
 have hE:=zb w (.cells #[.slice A m k] 29)
 obtain⟨R,h1,h2⟩:=(h.ext hE).own
 refine wpList_append_own_at _ hgd s x 47 ho base 29 i _ 1 24 Tryz.underlying47 hi hz hsz hby rfl (by omega) v ls.length _ hs h1 ⟨w.heap.size,0,none⟩ 1 c [.slice A m k] hx rfl (by
  intro j u hu
  match j,hu with
  | 0,hu =>
   have:(⟨w.heap.size,0,none⟩:Addr).add 0=⟨w.heap.size,0,none⟩:=rfl
   rw[this,zA]
   simpa using hu
  | j+1,hu=>simp at hu) (by
  intro u hu
  simp at hu
  subst hu
  rfl) (by unfold maxLen;omega) (by omega) (by simp;omega) ?_
 intro v' w' h3 h4 _ h5
 refine hk v' w' (OwnP.app (X:=fun _=>.slice A m k) h2 (fun i hi=>?_) (Nat.le_refl _) ?_ h4 h5) h4
 ·obtain rfl:i=0:=by simpa using hi
  exact⟨hr.ext hE,hcl⟩
 ·simpa using h3
end
end
section
open Go.RowKit Len Can
def Can.cntV (f:Nat→Nat):Array Value:=((List.range 16).map fun k=>Value.int .i64 ((f k:Nat):Int)).toArray
theorem Can.cntV_size (f:Nat→Nat):(cntV f).size=16:=by simp[cntV]
theorem Can.cntV_at (f:Nat→Nat){k:Nat}(hk:k<16):(cntV f)[k]?=some (.int .i64 ((f k:Nat):Int)):=by simp[cntV,hk]
theorem Can.cntV_one (f:Nat→Nat):(cntV f).all (·.oneCell')=true:=by
 simp[cntV]
 intros
 rfl
theorem qJ:(Tryz.prog.info? 261).map (·.size)=some 16:=by kernel_rfl
set_option maxHeartbeats 2000000 in
set_option maxRecDepth 100000 in
theorem QO (f:Nat→Nat)(hf:∀ k,f k≤300)(w:World):Calls Tryz.prog 217 #[.agg (cntV f)] w fun e w'=>e=.returned (.bool (jS f))∧Ext w w':=by
 have hE1:=zb w (.cells (cntV f) 261)
 have hW1:=Whole.new w 261 (cntV f)
 have HA:=hide (show ∀ k,k<16→(cntV f)[k]?=some (.int .i64 ((f k:Nat):Int)) from fun k hk=>cntV_at f hk)
 have HF:=hide hf
 have HW0:=hide (show zE f 0=0 from rfl)
 have HG0:=hide (show vE f 0=0 from rfl)
 have HWS:=hide (show ∀ j,zE f (j+1)=zE f j+f (j+1) from fun _=>rfl)
 have HGS:=hide (show ∀ j,vE f (j+1)=vE f j+f (j+1)*2 ^ (15-(j+1)) from fun _=>rfl)
 have HWL:=hide (aa3 hf)
 have HGL:=hide (Qz hf)
 have HR:=hide (show ∀ r:Prop,((zE f 15=0∨zE f 15=1∧f 1=1∨vE f 15=32768)↔r)→(r→jS f=true)∧(¬ r→jS f=false) from fun r hr=>⟨fun h=>decide_eq_true (hr.2 h),fun h=>decide_eq_false fun h2=>h (hr.1 h2)⟩)
 clear hf
 generalize cntV f=cs at *
 generalize jS f=res at *
 go_enter Tryz.func217,Tryz.ntmps217
 go_wp2
 go_loopw [5,3,4] (fun x a b wr=>∃ j u v:Nat,j≤15∧x=.int .i64 ((j+1:Nat):Int)∧a=.int .i64 (u:Int)∧b=.int .i64 (v:Int)∧u=zE f j∧v=vE f j∧Whole wr w.heap.size 261 cs∧Ext w wr) (fun x _ _ _=>17-(intOf x).toNat)
 case atStart=>exact⟨0,0,0,by omega,rfl,rfl,rfl,HW0.out.symm,HG0.out.symm,hW1,hE1⟩
 case round =>
  obtain⟨j,u,v,hj,rfl,rfl,rfl,hu,hv,hW,hE⟩:=hrel
  have hub:=HWL.out j
  have hvb:=HGL.out j
  rw[← hu]at hub
  rw[← hv]at hvb
  by_cases hlt:j<15
  ·have hjI:((j+1:Nat):Int)≤15:=by omega
   have hc:=hW.at (j+1) (HA.out (j+1) (by omega))
   have hyl:=HF.out (j+1)
   have HU:=HWS.out j
   have HV:=HGS.out j
   rw[← hu]at HU
   rw[← hv]at HV
   generalize f (j+1)=y at *
   have hp:2 ^ (15-(j+1))≤32768:=Nat.le_trans (Nat.pow_le_pow_right (by omega) (show 15-(j+1)≤15 by omega)) (by decide)
   have hyp:=Nat.mul_le_mul hyl hp
   have HUh:=hide HU
   have HVh:=hide HV
   clear HU HV hu hv
   go_wp2
   have hw:wrap64 ((v:Int)+wrap64 ((y:Int)*2 ^ (14-j)))=((v+y*2 ^ (15-(j+1)):Nat):Int):=by
    have e:(y:Int)*2 ^ (14-j)=((y*2 ^ (15-(j+1)):Nat):Int):=by rw[Int.natCast_mul,Int.natCast_pow,show 15-(j+1)=14-j by omega];rfl
    rw[e]
    generalize y*2 ^ (15-(j+1))=z at *
    unfold wrap64
    omega
   rw[hw]
   go_roundw
   case rel=>exact⟨j+1,u+y,v+y*2 ^ (15-(j+1)),by omega,by go_num,by go_num,rfl,HUh.out.symm,HVh.out.symm,hW,hE⟩
   case measure=>simp[intOf];omega
  ·obtain rfl:j=15:=by omega
   have hjI:¬ ((15+1:Nat):Int)≤15:=by omega
   have HRu:=hide (HR.out (u=0∨u=1∧f 1=1∨v=32768) (by rw[hu,hv]))
   have hc:=hW.at 1 (HA.out 1 (by omega))
   clear hu hv
   generalize f 1=y at *
   by_cases h0:u=0
   ·have HK:=hide (HRu.out.1 (.inl h0))
    clear HRu
    subst h0
    go_wp2
    go_ret
    exact⟨zf HK.out.symm,hE⟩
   ·have h0b:((u:Int)==0)=false:=by rw[beq_eq_false_iff_ne];omega
    by_cases hv:v=32768
    ·have HK:=hide (HRu.out.1 (.inr (.inr hv)))
     clear HRu
     subst hv
     by_cases h1:u=1
     ·subst h1
      by_cases hy:y=1
      ·subst hy
       go_wp2
       go_ret
       exact⟨zf HK.out.symm,hE⟩
      ·have hyb:((y:Int)==1)=false:=by rw[beq_eq_false_iff_ne];omega
       go_wp2
       go_ret
       exact⟨zf HK.out.symm,hE⟩
     ·have h1b:((u:Int)==1)=false:=by rw[beq_eq_false_iff_ne];omega
      go_wp2
      go_ret
      exact⟨zf HK.out.symm,hE⟩
    ·have hvb2:((v:Int)==32768)=false:=by rw[beq_eq_false_iff_ne];omega
     by_cases h1:u=1
     ·by_cases hy:y=1
      ·have HK:=hide (HRu.out.1 (.inr (.inl ⟨h1,hy⟩)))
       clear HRu
       subst h1
       subst hy
       go_wp2
       go_ret
       exact⟨zf HK.out.symm,hE⟩
      ·have hyb:((y:Int)==1)=false:=by rw[beq_eq_false_iff_ne];omega
       have HK:=hide (HRu.out.2 (by omega))
       clear HRu
       subst h1
       go_wp2
       go_ret
       exact⟨zf HK.out.symm,hE⟩
     ·have h1b:((u:Int)==1)=false:=by rw[beq_eq_false_iff_ne];omega
      have HK:=hide (HRu.out.2 (by omega))
      clear HRu
      go_wp2
      go_ret
      exact⟨zf HK.out.symm,hE⟩
def Can.h16A (f:Nat→Nat):Array Value:=((List.range 16).map fun k=>Yc (f k)).toArray
theorem Can.h16A_size (f:Nat→Nat):(h16A f).size=16:=by simp[h16A]
theorem Can.h16A_at (f:Nat→Nat){k:Nat}(hk:k<16):(h16A f)[k]?=some (.int .u16 ((f k:Nat):Int)):=by simp[h16A,hk,Yc]
theorem Can.h16A_one (f:Nat→Nat):(h16A f).all (·.oneCell')=true:=by
 simp[h16A,Yc]
 intros
 rfl
theorem Can.h16A_set (f g:Nat→Nat)(k x:Nat)(h:∀ j,j<16→g j=if j=k then x else f j):(h16A f).setIfInBounds k (.int .u16 (x:Int))=h16A g:=by
 apply Array.ext_getElem?
 intro i
 rcases Nat.lt_or_ge i 16 with hi|hi
 ·rw[h16A_at g hi,h i hi]
  by_cases e:k=i
  ·subst e
   rw[Array.getElem?_setIfInBounds_self_of_lt (by rw[h16A_size];exact hi),if_pos rfl]
  ·rw[Array.getElem?_setIfInBounds_ne e,h16A_at f hi,if_neg (by omega)]
 ·rw[Array.getElem?_eq_none (by rw[Array.size_setIfInBounds,h16A_size];exact hi),Array.getElem?_eq_none (by rw[h16A_size];exact hi)]
theorem Jy:(Tryz.prog.info? 271).map (·.size)=some 16:=by kernel_rfl
def Can.fstTo (l:List UInt8)(n k:Nat):Nat:=if k<n then fst l k else 0
theorem Can.fstTo_one (l:List UInt8):h16A (fstTo l 1)=#[.int .u16 0,.int .u16 0,.int .u16 0,.int .u16 0,.int .u16 0,.int .u16 0,.int .u16 0,.int .u16 0,.int .u16 0,.int .u16 0,.int .u16 0,.int .u16 0,.int .u16 0,.int .u16 0,.int .u16 0,.int .u16 0]:=rfl
theorem Can.fstTo_all (l:List UInt8):h16A (fstTo l 16)=h16A (fst l):=by
 unfold h16A
 congr 1
theorem Can.fstTo_step (l:List UInt8){k:Nat}:(h16A (fstTo l k)).setIfInBounds k (.int .u16 (fst l k:Nat))=h16A (fstTo l (k+1)):=h16A_set _ _ _ _ fun j _=>by
 unfold fstTo
 by_cases h:j=k
 ·rw[if_pos h,if_pos (by omega),h]
 ·rw[if_neg h]
  by_cases h2:j<k
  ·rw[if_pos h2,if_pos (by omega)]
  ·rw[if_neg h2,if_neg (by omega)]
set_option maxHeartbeats 2000000 in
set_option maxRecDepth 100000 in
theorem Jz (l:List UInt8)(hr:right l=true)(w:World):Calls Tryz.prog 218 #[.agg (cntV (cnt l l.length))] w fun e w'=>e=.returned (.agg (h16A (fst l)))∧Ext w w':=by
 have hE1:=zb w (.cells (cntV (cnt l l.length)) 261)
 have hW1:=Whole.new w 261 (cntV (cnt l l.length))
 have HA:=hide (show ∀ k,k<16→(cntV (cnt l l.length))[k]?=some (.int .i64 ((cnt l l.length k:Nat):Int)) from fun k hk=>cntV_at _ hk)
 have HRoom:=hide (show ∀ k,1≤k→fst l k+cnt l l.length k≤32768 from fun k hk=>acp hr hk _ (Nat.le_refl _))
 have HNext:=hide (show ∀ k,1≤k→k<15→fst l (k+1)=(fst l k+cnt l l.length k)*2 from fun k hk h15=>aco l hk h15)
 have H1:=hide (ady l)
 have HZ:=hide (fstTo_one l)
 have HS:=hide (show ∀ k,(h16A (fstTo l k)).setIfInBounds k (.int .u16 (fst l k:Nat))=h16A (fstTo l (k+1)) from fun k=>fstTo_step l)
 have HAll:=hide (fstTo_all l)
 have HSz:=hide (show ∀ k,(h16A (fstTo l k)).size=16 from fun k=>h16A_size _)
 have HSzA:=hide (h16A_size (fst l))
 have HOne:=hide (h16A_one (fst l))
 clear hr
 generalize cntV (cnt l l.length)=cs at *
 generalize cnt l l.length=f at *
 have hE2:=(hE1.alloc (.cells (h16A (fstTo l 1)) 271)).alloc (.cells (h16A (fstTo l 1)) 271)
 have hW2:=(hW1.alloc (.cells (h16A (fstTo l 1)) 271)).alloc (.cells (h16A (fstTo l 1)) 271)
 have hR2:=(Whole.new (w.alloc (.cells cs 261)) 271 (h16A (fstTo l 1))).alloc (.cells (h16A (fstTo l 1)) 271)
 have hF2:=Whole.new ((w.alloc (.cells cs 261)).alloc (.cells (h16A (fstTo l 1)) 271)) 271 (h16A (fstTo l 1))
 simp only[World.size_alloc]at hR2 hF2
 go_enter Tryz.func218,Tryz.ntmps218
 go_wp2
 rw[← HZ.out]
 obtain⟨Z,hZ⟩:∃ Z,Z=h16A (fstTo l 1):=⟨_,rfl⟩
 have HZs:=hide (show Z.size=16 by rw[hZ];exact HSz.out 1)
 rw[← hZ]at hR2
 have HZe:=hide hZ
 clear hZ
 go_loopw [5,4] (fun x a wr=>∃ j s:Nat,j≤15∧x=.int .i64 ((j+1:Nat):Int)∧a=.int .i64 (s:Int)∧(j<15→fst l (j+1)=s*2)∧s≤32768∧Whole wr w.heap.size 261 cs∧Whole wr (w.heap.size+1) 271 Z∧Whole wr (w.heap.size+1+1) 271 (h16A (fstTo l (j+1)))∧Ext w wr) (fun x _ _=>17-(intOf x).toNat)
 case atStart=>exact⟨0,0,by omega,rfl,rfl,fun _=>H1.out,by omega,hW2,by rw[HZe.out]at hR2 ⊢;exact hR2,hF2,hE2⟩
 case round =>
  clear hE1 hW1 hE2 hW2 hR2 hF2
  obtain⟨j,s,hj,rfl,rfl,hs,hsb,hW,hR,hF,hE⟩:=hrel
  by_cases hlt:j<15
  ·have hjI:((j+1:Nat):Int)≤15:=by omega
   have hcs:=HA.out (j+1) (by omega)
   have hS:=HS.out (j+1)
   rw[hs hlt]at hS
   have hrm:=HRoom.out (j+1) (by omega)
   rw[hs hlt]at hrm
   have hnx:=HNext.out (j+1) (by omega)
   rw[hs hlt]at hnx
   have hsz:=HSz.out (j+1)
   generalize f (j+1)=y at *
   have HSh:=hide hS
   have HNx:=hide hnx
   clear hs hS hnx
   have hu16:IntKind.u16.wrap ((s:Int)*2)=((s*2:Nat):Int):=by simp[IntKind.wrap,IntKind.bits,IntKind.signed];omega
   have hb1:(Tryz.prog.info? 191).map (·.size)=some 1:=by kernel_rfl
   have hszl:j+1<(h16A (fstTo l (j+1))).size:=by omega
   have HSzl:=hide hszl
   have HCs:=hide hcs
   clear hsz hszl hcs
   generalize h16A (fstTo l (j+1))=V at *
   generalize hV2:h16A (fstTo l (j+1+1))=V2 at *
   have HV2:=hide hV2
   clear hV2
   go_wp2_with (refine yb rfl 191 (.tmp 15) (.tmp 14) rfl _ rfl rfl hF HSzl.out hb1 rfl rfl HSh.out ?_;intro w3 hF3 hG3;have hW3:=hW.grown hG3 (by omega);have hc3:=hW3.at (j+1) HCs.out)
   go_roundw
   case rel=>exact⟨j+1,s*2+y,by omega,by go_num,by go_num,HNx.out,hrm,hW3,hR.grown hG3 (by omega),by rw[HV2.out];exact hF3,Below.grown hE hG3 hE.le (fun k hk=>by cases hk;omega)⟩
   case measure=>simp[intOf];omega
  ·obtain rfl:j=15:=by omega
   have hjI:¬ ((15+1:Nat):Int)≤15:=by omega
   rw[show 15+1=16 from rfl,HAll.out]at hF
   have hsz:=HSzA.out
   have hinf:(Tryz.prog.info? 271).map (·.size)=some (h16A (fst l)).size:=by rw[hsz];exact Jy
   have hss:(h16A (fst l)).size=Z.size:=by rw[hsz,HZs.out]
   have hone:=HOne.out
   clear hs hW hsz
   obtain⟨V,hV⟩:∃ V,V=h16A (fst l):=⟨_,rfl⟩
   rw[← hV]at hF hinf hss hone
   have HVV:=hide hV
   clear hV
   go_wp2_with (first
    | (refine wpList_load_row rfl 271 (.tmp 3) rfl _ rfl _ _ _ _ hF Tryz.underlying271 rfl hinf ?_)
    | (refine zh rfl 271 (.tmp 2) (.tmp 21) rfl rfl rfl hR hss hinf hone ?_;intro w5 hW5 hG5 _))
   refine bodyPost_ret (results_cell_row rfl _ _ _ _ _ _ _ rfl hW5 Tryz.underlying271 rfl hinf) rfl ?_
   exact⟨by rw[HVV.out],Below.grown hE hG5 hE.le (fun k hk=>by cases hk;omega)⟩
theorem Can.cntV_zero:cntV (fun _=>0)=#[.int .i64 0,.int .i64 0,.int .i64 0,.int .i64 0,.int .i64 0,.int .i64 0,.int .i64 0,.int .i64 0,.int .i64 0,.int .i64 0,.int .i64 0,.int .i64 0,.int .i64 0,.int .i64 0,.int .i64 0,.int .i64 0]:=rfl
theorem Can.cntV_set (f g:Nat→Nat)(k x:Nat)(h:∀ j,j<16→g j=if j=k then x else f j):(cntV f).setIfInBounds k (.int .i64 (x:Int))=cntV g:=by
 apply Array.ext_getElem?
 intro i
 rcases Nat.lt_or_ge i 16 with hi|hi
 ·rw[cntV_at g hi,h i hi]
  by_cases e:k=i
  ·subst e
   rw[Array.getElem?_setIfInBounds_self_of_lt (by rw[cntV_size];exact hi),if_pos rfl]
  ·rw[Array.getElem?_setIfInBounds_ne e,cntV_at f hi,if_neg (by omega)]
 ·rw[Array.getElem?_eq_none (by rw[Array.size_setIfInBounds,cntV_size];exact hi),Array.getElem?_eq_none (by rw[cntV_size];exact hi)]
end
section
open Go.RowKit Len Can
def Can.outF (l:List UInt8):Nat→Nat:=if right l then cnt l l.length else fun _=>0
def Counted (w:World)(l:List UInt8)(e:Ending)(w':World):Prop:=e=.returned (.tuple #[.agg (cntV (outF l)),.int .i64 (checkE l)])∧Ext w w'
theorem Can.cnt_step (l:List UInt8)(i:Nat):(cntV (cnt l i)).setIfInBounds (zg l i) (.int .i64 ((cnt l i (zg l i)+1:Nat):Int))=cntV (cnt l (i+1)):=cntV_set _ _ _ _ fun j _=>by
 rw[vm]
 by_cases h:j=zg l i
 ·rw[if_pos h,if_pos h.symm,h]
 ·rw[if_neg h,if_neg (fun e=>h e.symm),Nat.add_zero]
theorem Can.cnt_none (l:List UInt8):cntV (cnt l 0)=cntV fun _=>0:=rfl
set_option maxHeartbeats 2000000 in
set_option maxRecDepth 100000 in
theorem qK (A:Option Addr)(n c:Nat)(l:List UInt8)(w:World)(h:Bytes w w.heap.size A n l):Calls Tryz.prog 210 #[.slice A n c] w (Counted w l):=by
 have hl:=h.1
 subst hl
 have hR1:=Whole.new w 261 (cntV fun _=>0)
 have hE1:=zb w (.cells (cntV fun _=>0) 261)
 have HNo:=hide (show right l=false→outF l=fun _=>0 from fun h=>by unfold outF;rw[h];rfl)
 have HNo7:=hide (show right l=false→checkE l=7 from yw)
 have hinf:(Tryz.prog.info? 261).map (·.size)=some (cntV fun _=>0).size:=by rw[cntV_size];exact qJ
 by_cases hbig:(300:Int)<(l.length:Int)
 ·have HN:=hide (HNo.out (YO (by omega)))
  have H7:=hide (HNo7.out (YO (by omega)))
  go_enter Tryz.func210,Tryz.ntmps210
  go_wp2
  refine bodyPost_ret (zH rfl _ rfl rfl (run_loadVar_row _ _ _ _ _ _ _ hR1 Tryz.underlying261 rfl hinf)) rfl ?_
  exact⟨by rw[HN.out,H7.out];rfl,hE1⟩
 ·have hE2:=hE1.alloc (.cells (cntV fun _=>0) 261)
  have hR2:=hR1.alloc (.cells (cntV fun _=>0) 261)
  have hM2:=Whole.new (w.alloc (.cells (cntV fun _=>0) 261)) 261 (cntV fun _=>0)
  simp only[World.size_alloc]at hM2
  have HS:=hide (cnt_step l)
  have H0:=hide (cnt_none l)
  have HZ:=hide cntV_zero
  have HLe:=hide (show ∀ i k,cnt l i k≤i from fun i k=>acn l k i)
  have HRt:=hide (show (∀ i,i<l.length→zg l i≤15)→jS (cnt l l.length)=right l from Yb (by omega))
  have HYes:=hide (show right l=true→outF l=cnt l l.length from fun h=>by unfold outF;rw[h];rfl)
  have HYes0:=hide (show right l=true→checkE l=0 from zU)
  have HWr:=hide (show ∀ i,i<l.length→15<zg l i→right l=false from fun i hi h=>QA hi h)
  have HSz:=hide (show ∀ f,(cntV f).size=16 from cntV_size)
  have HOne:=hide (show ∀ f,(cntV f).all (·.oneCell')=true from cntV_one)
  have HAt:=hide (show ∀ f k,k<16→(cntV f)[k]?=some (.int .i64 ((f k:Nat):Int)) from fun f k h=>cntV_at f h)
  go_enter Tryz.func210,Tryz.ntmps210
  go_wp2
  rw[← HZ.out]
  go_loopw [13] (fun x wr=>∃ i:Nat,i≤l.length∧x=.int .i64 (i:Int)∧(∀ q,q<i→zg l q≤15)∧Whole wr w.heap.size 261 (cntV fun _=>0)∧Whole wr (w.heap.size+1) 261 (cntV (cnt l i))∧Ext w wr) (fun x _=>l.length-(intOf x).toNat)
  case atStart=>exact⟨0,by omega,rfl,fun q hq=>absurd hq (by omega),hR2,by rw[H0.out];exact hM2,hE2⟩
  case round =>
   clear hE1 hR1 hE2 hR2 hM2
   obtain⟨i,hi,rfl,hall,hR,hM,hE⟩:=hrel
   have HAll:=hide hall
   clear hall
   by_cases hlt:i<l.length
   ·rcases (hE.bytes h).2 with h0 | ⟨b,o,rfl,hB,hc⟩
    ·omega
    have hk:=hc i hlt
    have hyl:=UInt8.toNat_lt (l.getD i 0)
    have hS:=HS.out i
    have hW:=HWr.out i hlt
    obtain⟨y,hy⟩:∃ y,y=zg l i:=⟨_,rfl⟩
    have hk2:wr.cell? ⟨b,o+i,none⟩=some (.int .u8 (y:Int)):=by rw[hy];exact hk
    have hyl2:y<256:=by rw[hy];exact hyl
    rw[← hy]at hS hW
    have HY:=hide hy
    have hil:(i:Int)<(l.length:Int):=by omega
    clear hc hy hk hyl
    by_cases h15:(15:Int)<(y:Int)
    ·have HN:=hide (HNo.out (hW (by omega)))
     have H7:=hide (HNo7.out (hW (by omega)))
     have hone:=HOne.out fun _=>0
     clear hS hW
     go_wp2_with (refine zh rfl 261 (.tmp 2) (.tmp 19) rfl rfl (congrArg Value.agg HZ.out.symm) hR rfl hinf hone ?_;intro w5 hW5 hG5 _)
     refine bodyPost_ret (zH rfl _ rfl rfl (run_loadVar_row _ _ _ _ _ _ _ hW5 Tryz.underlying261 rfl hinf)) rfl ?_
     exact⟨by rw[HN.out,H7.out];rfl,Below.grown hE hG5 hE.le (fun k hk=>by cases hk;omega)⟩
    ·have HS2:=hide hS
     have hcy:=hM.at y (HAt.out _ y (by omega))
     have hle:=HLe.out i y
     have hb1:(Tryz.prog.info? 3).map (·.size)=some 1:=by kernel_rfl
     have hys:y<(cntV (cnt l i)).size:=by rw[HSz.out];omega
     have HYs:=hide hys
     clear hS hW hys
     obtain⟨V,hV⟩:∃ V,V=cntV (cnt l i):=⟨_,rfl⟩
     rw[← hV]at hM HYs HS2
     obtain⟨V2,hV2⟩:∃ V2,V2=cntV (cnt l (i+1)):=⟨_,rfl⟩
     rw[← hV2]at HS2
     have HV2:=hide hV2
     clear hV hV2
     generalize cnt l i y=m at *
     go_wp2_with (refine yb rfl 3 (.tmp 24) (.tmp 23) rfl _ rfl rfl hM HYs.out hb1 rfl rfl HS2.out ?_;intro w3 hM3 hG3)
     go_roundw
     case rel=>exact⟨i+1,by omega,by go_num,fun q hq=>(by
      by_cases hqi:q=i
      ·rw[hqi,← HY.out];omega
      ·exact HAll.out q (by omega)),hR.grown hG3 (by omega),by rw[← HV2.out];exact hM3,Below.grown hE hG3 hE.le (fun k hk=>by cases hk;omega)⟩
     case measure=>simp[intOf];omega
   ·obtain rfl:l.length=i:=by omega
    have hrt:=HRt.out HAll.out
    have C:=fun W=>QO (cnt l l.length) (fun k=>Nat.le_trans (HLe.out _ k) (by omega)) W
    rw[hrt]at C
    have hsz:=HSz.out (cnt l l.length)
    have hinf2:(Tryz.prog.info? 261).map (·.size)=some (cntV (cnt l l.length)).size:=by rw[hsz];exact qJ
    have hss:(cntV (cnt l l.length)).size=(cntV fun _=>0).size:=by rw[hsz,HSz.out]
    have hone:=HOne.out (cnt l l.length)
    have hone0:=HOne.out fun _=>0
    clear hrt hsz
    generalize right l=r at *
    obtain⟨V,hV⟩:∃ V,V=cntV (cnt l l.length):=⟨_,rfl⟩
    rw[← hV]at C hM hinf2 hss hone
    have HV:=hide hV
    clear hV
    go_wp2_with (refine wpList_load_row rfl 261 (.tmp 4) rfl _ rfl _ _ _ _ hM Tryz.underlying261 rfl hinf2 ?_)
    refine (C _).mono ?_
    rintro e w4 ⟨rfl,hE4⟩
    have hM4:=hM.ext hE4
    have hR4:=hR.ext hE4
    have hF4:=hE.trans hE4
    clear hM hR hE hE4 C
    cases r with
    | false =>
     have HN:=hide (HNo.out rfl)
     have H7:=hide (HNo7.out rfl)
     go_wp2_with (refine zh rfl 261 (.tmp 2) (.tmp 29) rfl rfl (congrArg Value.agg HZ.out.symm) hR4 rfl hinf hone0 ?_;intro w5 hW5 hG5 _)
     refine bodyPost_ret (zH rfl _ rfl rfl (run_loadVar_row _ _ _ _ _ _ _ hW5 Tryz.underlying261 rfl hinf)) rfl ?_
     exact⟨by rw[HN.out,H7.out];rfl,Below.grown hF4 hG5 hF4.le (fun k hk=>by cases hk;omega)⟩
    | true =>
     have HN:=hide (HYes.out rfl)
     have H0':=hide (HYes0.out rfl)
     go_wp2_with (first
      | (refine wpList_load_row rfl 261 (.tmp 4) rfl _ rfl _ _ _ _ hM4 Tryz.underlying261 rfl hinf2 ?_)
      | (refine zh rfl 261 (.tmp 2) (.tmp 30) rfl rfl rfl hR4 hss hinf2 hone ?_;intro w5 hW5 hG5 _))
     refine bodyPost_ret (zH rfl _ rfl rfl (run_loadVar_row _ _ _ _ _ _ _ hW5 Tryz.underlying261 rfl hinf2)) rfl ?_
     exact⟨by rw[HN.out,H0'.out,HV.out];rfl,Below.grown hF4 hG5 hF4.le (fun k hk=>by cases hk;omega)⟩
set_option maxHeartbeats 2000000 in
set_option maxRecDepth 100000 in
theorem abk (A:Option Addr)(n c:Nat)(l:List UInt8)(w:World)(h:Bytes w w.heap.size A n l):Calls Tryz.prog 194 #[.slice A n c] w fun e w'=>e=.returned (.int .i64 (checkE l))∧Ext w w':=by
 have C:=qK A n c l w h
 unfold Counted at C
 have hsz:=cntV_size (outF l)
 have hone:=cntV_one (outF l)
 have hinf:(Tryz.prog.info? 261).map (·.size)=some (cntV (outF l)).size:=by rw[hsz];exact qJ
 have hss:(cntV (outF l)).size=(cntV fun _=>0).size:=by rw[hsz,cntV_size]
 have HZ:=hide cntV_zero
 generalize cntV (outF l)=V at *
 generalize checkE l=ck at *
 go_enter Tryz.func194,Tryz.ntmps194
 go_wp2_with fail
 refine C.mono ?_
 rintro e w2 ⟨rfl,hE⟩
 have hM:=Whole.new w2 261 (cntV fun _=>0)
 have hE2:=hE.alloc (.cells (cntV fun _=>0) 261)
 rw[HZ.out]at hM hE2
 rw[HZ.out]at hss
 go_wp2_with (refine zh rfl 261 (.tmp 3) (.tmp 8) rfl rfl rfl hM hss hinf hone ?_;intro w5 hW5 hG5 _)
 go_ret
 exact⟨rfl,Below.grown hE2 hG5 hE2.le (fun k hk=>by cases hk;exact hE.le)⟩
end
section
open Go.RowKit Len Can
theorem Uv {ops:Array Oper}{rest:List Oper}{o:Oper}{a:Act}{Q:Exit→Act→World→Prop}{w:World}(hgd:o.guard=none)(x y:Operand)(ho:o.op=.makeSlice 147 x y){n:Nat}(hx:a.eval x=.int .i64 (n:Int))(hy:a.eval y=.int .i64 (n:Int))(hn:n≤1000)
  (h:∀ w',OwnH w' w.heap.size (.slice (some ⟨w.heap.size,0,none⟩) n n) (List.replicate n 0)→Ext w w'→wpList Tryz.prog ops Q rest (a.put o.dst (.slice (some ⟨w.heap.size,0,none⟩) n n)) w'):wpList Tryz.prog ops Q (o::rest) a w:=by
 obtain⟨i,hi,hz,hsz,hby⟩:=info_parts YU
 refine wpList_make_full w hgd x y 147 ho w.heap.size 191 i _ 1 Tryz.underlying147 hi hz hsz .i64 .i64 _ _ n hx hy rfl rfl (by rw[hby];omega) (by unfold maxLen;omega) (Nat.le_refl _) ?_
 intro w' h1 h2
 refine h w' ?_ (Below.grown (Ext.refl w) h2 (Nat.le_refl _) fun k hk=>by cases hk)
 unfold OwnH
 have e:(madeCells (Value.int .u16 0).cells (n*1)).toList=(List.replicate n (0:Nat)).map Yc:=by
  have:madeCells (Value.int .u16 0).cells n=((List.replicate n (0:Nat)).map Yc).toArray:=by
   apply Array.ext
   ·simp[size_madeCells]
   ·intro i h1 h2
    simp[madeCells,Value.cells,Yc,Nat.mod_one]
  rw[Nat.mul_one,this]
 rw[e]at h1
 simpa using h1
def Can.nextF (l:List UInt8)(s k:Nat):Nat:=if k=0 then 0 else fst l k+cnt l s k
theorem Can.next_none (l:List UInt8):h16A (fst l)=h16A (nextF l 0):=rfl
theorem Can.next_pass (l:List UInt8){s:Nat}(h:zg l s=0):h16A (nextF l s)=h16A (nextF l (s+1)):=by
 congr 1
 funext k
 unfold nextF
 by_cases h0:k=0
 ·rw[if_pos h0,if_pos h0]
 ·rw[if_neg h0,if_neg h0,vm,if_neg (by omega),Nat.add_zero]
theorem Can.next_step (l:List UInt8){s:Nat}(hs:s<l.length)(h:zg l s≠0):nextF l s (zg l s)=word l s∧(h16A (nextF l s)).setIfInBounds (zg l s) (.int .u16 ((word l s+1:Nat):Int))=h16A (nextF l (s+1)):=by
 have e:nextF l s (zg l s)=word l s:=by
  unfold nextF
  rw[if_neg h,acq l hs h]
 refine⟨e,h16A_set _ _ _ _ fun j _=>?_⟩
 by_cases hj:j=zg l s
 ·rw[if_pos hj,← e,hj]
  unfold nextF
  rw[if_neg h,if_neg h,vm,if_pos rfl]
  omega
 ·rw[if_neg hj]
  unfold nextF
  by_cases h0:j=0
  ·rw[if_pos h0,if_pos h0]
  ·rw[if_neg h0,if_neg h0,vm,if_neg (fun e=>hj e.symm),Nat.add_zero]
set_option maxHeartbeats 2000000 in
set_option maxRecDepth 100000 in
theorem abl (A:Option Addr)(n c:Nat)(l:List UInt8)(w:World)(h:Bytes w w.heap.size A n l):Calls Tryz.prog 212 #[.slice A n c] w (acF w (yH l)):=by
 have C:=qK A n c l w h
 unfold Counted at C
 have hl:=h.1
 subst hl
 have HZ:=hide cntV_zero
 have hsz:=cntV_size (outF l)
 have hone:=cntV_one (outF l)
 have hinf:(Tryz.prog.info? 261).map (·.size)=some (cntV (outF l)).size:=by rw[hsz];exact qJ
 have hss:(cntV (outF l)).size=(cntV fun _=>0).size:=by rw[hsz,cntV_size]
 rw[HZ.out]at hss
 cases hr:right l with
 | false =>
  have HN:=hide (show yH l=([],7) by unfold yH;rw[hr];rfl)
  rw[yw hr]at C
  clear hr h
  generalize cntV (outF l)=V at *
  go_enter Tryz.func212,Tryz.ntmps212
  go_wp2_with fail
  refine C.mono ?_
  rintro e w2 ⟨rfl,hE⟩
  have hM:=Whole.new w2 261 (cntV fun _=>0)
  have hE2:=hE.alloc (.cells (cntV fun _=>0) 261)
  rw[HZ.out]at hM hE2
  go_wp2_with (refine zh rfl 261 (.tmp 4) (.tmp 13) rfl rfl rfl hM hss hinf hone ?_;intro w5 hW5 hG5 _)
  go_ret2
  rw[HN.out]
  exact⟨_,rfl,OwnH.nil _ _,Below.grown hE2 hG5 hE2.le (fun k hk=>by cases hk;exact hE.le)⟩
 | true =>
  have HN:=hide (show yH l=(zW l,0) by unfold yH;rw[hr];rfl)
  rw[zU hr]at C
  obtain⟨h300,h15,_⟩:=zD hr
  have HF:=fun W=>Jz l hr W
  have HO:outF l=cnt l l.length:=by unfold outF;rw[hr];rfl
  rw[← HO]at HF
  have HLt:=hide (show ∀ s,s<l.length→word l s<32768 from fun s hs=>Yr hr hs)
  have H15:=hide h15
  have HNone:=hide (Ud l)
  have HAll:=hide (Jl l)
  have HLen:=hide (Jk l)
  have HSet:=hide (Jm l)
  have HPass:=hide (show ∀ s,zg l s=0→ya l s=ya l (s+1) from fun s hs=>Ue l hs)
  have HNx0:=hide (next_none l)
  have HNxP:=hide (show ∀ s,zg l s=0→h16A (nextF l s)=h16A (nextF l (s+1)) from fun s hs=>next_pass l hs)
  have HNxS:=hide (show ∀ s,s<l.length→zg l s≠0→nextF l s (zg l s)=word l s∧(h16A (nextF l s)).setIfInBounds (zg l s) (.int .u16 ((word l s+1:Nat):Int))=h16A (nextF l (s+1)) from fun s hs h=>next_step l hs h)
  have HSzA:=hide (show ∀ f,(h16A f).size=16 from h16A_size)
  have HAtA:=hide (show ∀ f k,k<16→(h16A f)[k]?=some (.int .u16 ((f k:Nat):Int)) from fun f k h=>h16A_at f h)
  have honeF:=h16A_one (fst l)
  have hinfF:(Tryz.prog.info? 271).map (·.size)=some (h16A (fst l)).size:=by rw[h16A_size];exact Jy
  have hssF:(h16A (fst l)).size=(#[.int .u16 0,.int .u16 0,.int .u16 0,.int .u16 0,.int .u16 0,.int .u16 0,.int .u16 0,.int .u16 0,.int .u16 0,.int .u16 0,.int .u16 0,.int .u16 0,.int .u16 0,.int .u16 0,.int .u16 0,.int .u16 0]:Array Value).size:=by rw[h16A_size];rfl
  have hl300:l.length≤1000:=by omega
  clear hr h15 HO hsz
  generalize cntV (outF l)=V at *
  obtain⟨F,hFe⟩:∃ F,F=h16A (fst l):=⟨_,rfl⟩
  rw[← hFe]at HF hinfF hssF honeF
  have HFe:=hide hFe
  clear hFe
  go_enter Tryz.func212,Tryz.ntmps212
  go_wp2_with fail
  refine C.mono ?_
  rintro e w2 ⟨rfl,hE⟩
  have hM:=Whole.new w2 261 (cntV fun _=>0)
  have hE2:=hE.alloc (.cells (cntV fun _=>0) 261)
  rw[HZ.out]at hM hE2
  have hle:=hE.le
  clear C hE
  go_wp2_with (first
   | (refine zh rfl 261 (.tmp 4) (.tmp 13) rfl rfl rfl hM hss hinf hone ?_;intro w5 hW5 hG5 hS5;clear hS5)
   | (refine wpList_load_row rfl 261 (.tmp 4) rfl _ rfl _ _ _ _ hW5 Tryz.underlying261 rfl hinf ?_))
  have hF5:Ext w w5:=Below.grown hE2 hG5 hE2.le (fun k hk=>by cases hk;exact hle)
  clear hE2 hG5 hM
  refine (HF _).mono ?_
  rintro e w6 ⟨rfl,hE6⟩
  have hF6:=hF5.trans hE6
  have hM6:=Whole.new w6 271 #[.int .u16 0,.int .u16 0,.int .u16 0,.int .u16 0,.int .u16 0,.int .u16 0,.int .u16 0,.int .u16 0,.int .u16 0,.int .u16 0,.int .u16 0,.int .u16 0,.int .u16 0,.int .u16 0,.int .u16 0,.int .u16 0]
  have hF7:=hF6.alloc (.cells #[.int .u16 0,.int .u16 0,.int .u16 0,.int .u16 0,.int .u16 0,.int .u16 0,.int .u16 0,.int .u16 0,.int .u16 0,.int .u16 0,.int .u16 0,.int .u16 0,.int .u16 0,.int .u16 0,.int .u16 0,.int .u16 0] 271)
  have hle6:=hF6.le
  clear hF5 hE6 hF6 HF
  obtain⟨g6,hg6⟩:∃ g,g=w6.heap.size:=⟨_,rfl⟩
  rw[← hg6]at hM6 hle6
  have Hg6:=hide hg6
  clear hg6
  go_wp2_with (first
   | (refine zh rfl 271 (.tmp 6) (.tmp 19) rfl (by rw[Hg6.out];rfl) rfl hM6 hssF hinfF honeF ?_;intro w7 hW7 hG7 hS7;clear hS7)
   | (refine Uv (n:=l.length) rfl (.tmp 21) (.tmp 21) rfl rfl rfl hl300 ?_;intro w8 hO8 hE8))
  have hF7':Ext w w7:=Below.grown hF7 hG7 hF7.le (fun k hk=>by cases hk;exact hle6)
  have hF8:=hF7'.trans hE8
  clear hF7'
  have hW8:=hW7.ext hE8
  have hlt7:=hW7.lt
  have hle7:w.heap.size≤w7.heap.size:=by omega
  rw[HFe.out,HNx0.out]at hW8
  rw[← HNone.out]at hO8
  rw[← Hg6.out]
  generalize w7.heap.size=g7 at *
  have hg67:g6≠g7:=by omega
  clear hE8 hW7 hG7 hF7 hM6 hssF hinfF honeF hss hinf hone hW5 Hg6 HFe
  go_loopw [25] (fun x wr=>∃ s:Nat,s≤l.length∧x=.int .i64 (s:Int)∧Whole wr g6 271 (h16A (nextF l s))∧OwnH wr w.heap.size (.slice (some ⟨g7,0,none⟩) l.length l.length) (ya l s)∧Ext w wr) (fun x _=>l.length-(intOf x).toNat)
  case atStart=>exact⟨0,by omega,rfl,hW8,hO8.mono hle7,hF8⟩
  case round =>
   clear hW8 hO8 hF8
   obtain⟨s,hs,rfl,hW,hO,hE⟩:=hrel
   by_cases hlt:s<l.length
   ·rcases (hE.bytes h).2 with h0 | ⟨b,o,rfl,hB,hc⟩
    ·omega
    have hk:=hc s hlt
    have hy15:=H15.out s hlt
    have hP:=HPass.out s
    have hNP:=HNxP.out s
    have hNS:=HNxS.out s hlt
    have hx:=HLt.out s hlt
    obtain⟨y,hy⟩:∃ y,y=zg l s:=⟨_,rfl⟩
    have hk2:wr.cell? ⟨b,o+s,none⟩=some (.int .u8 (y:Int)):=by rw[hy];exact hk
    rw[← hy]at hP hNP hNS hy15
    have hil:(s:Int)<(l.length:Int):=by omega
    clear hc hy hk
    by_cases y0:y=0
    ·have HP:=hide (hP y0)
     have HNP:=hide (hNP y0)
     clear hP hNP hNS
     subst y0
     go_wp2
     go_roundw
     case rel=>exact⟨s+1,by omega,by go_num,by rw[← HNP.out];exact hW,by rw[← HP.out];exact hO,hE⟩
     case measure=>simp[intOf];omega
    ·obtain⟨hn1,hn2⟩:=hNS y0
     have hSt:=HSet.out s
     have hcx:=hW.at y (HAtA.out _ y (by omega))
     rw[hn1]at hcx
     have hO':=hO
     have hlenO:=HLen.out s
     rw[← hlenO]at hO'
     obtain⟨k1,k2⟩:=hO'.cell (i:=s) (by rw[hlenO];exact hlt)
     have hO2:=hO'.set s (word l s)
     rw[hSt,hlenO]at hO2
     have hW2:=hW.far (b:=g7) hg67 s (.int .u16 ((word l s:Nat):Int))
     have hcx2:=hW2.at y (HAtA.out _ y (by omega))
     rw[hn1]at hcx2
     have hsz:=HSzA.out (nextF l s)
     have hsy:y<(h16A (nextF l s)).size:=by rw[hsz];omega
     have HSy:=hide hsy
     have HN2:=hide hn2
     have HO2:=hide hO2
     have hb1:(Tryz.prog.info? 191).map (·.size)=some 1:=by kernel_rfl
     have hE2:=hE.setCell (g:=g7) (i:=s) hle7 (.int .u16 ((word l s:Nat):Int))
     have hgl:g7<wr.heap.size:=(hO.lt g7 rfl).2
     have hy0:(0:Int)<(y:Int):=by omega
     clear hP hNP hNS hn1 hn2 hSt hO' hlenO hO2 hsz hsy hO
     generalize word l s=x at *
     generalize (ya l s).getD s 0=x0 at *
     obtain⟨V1,hV1⟩:∃ V1,V1=h16A (nextF l s):=⟨_,rfl⟩
     rw[← hV1]at hW hW2 HSy HN2
     clear hV1
     obtain⟨V2,hV2⟩:∃ V2,V2=h16A (nextF l (s+1)):=⟨_,rfl⟩
     rw[← hV2]at HN2
     have HV2:=hide hV2
     clear hV2
     go_wp2_with (refine yb rfl 191 (.tmp 42) (.tmp 41) rfl _ rfl rfl hW2 HSy.out hb1 rfl rfl HN2.out ?_;intro w9 hW9 hG9)
     go_roundw
     case rel =>
      have hO9:=World.ownsRow.kept HO2.out hG9 (by simp[Value.ownBlock];omega)
      exact⟨s+1,by omega,by go_num,by rw[← HV2.out];exact hW9,hO9,Below.grown hE2 hG9 hE2.le (fun k hk=>by cases hk;exact hle6)⟩
     case measure=>simp[intOf];omega
   ·obtain rfl:l.length=s:=by omega
    rw[HAll.out]at hO
    have HO:=hide hO
    clear hO
    go_wp2
    go_ret2
    rw[HN.out]
    exact⟨_,rfl,HO.out,hE⟩
end
section
open Go.RowKit
set_option maxHeartbeats 1000000 in
theorem Ye (A:Option Addr)(n c:Nat)(l:List UInt8)(w:World)(hc:n≤c)(hn:n≤140737488355328)(hb:Bytes w w.heap.size A n l) :
  Calls Tryz.prog 159 #[.slice A n c] w (zt w l):=by
 have hnil:=fun (W:World) (a:Option Addr) (n c n' c':Nat)=>Lib.run_eql_slice_nil (P:=Tryz.prog) W 29 5 a n c n' c' Tryz.underlying29
 rcases A with _|ad
 ·have hl:l=[]:=by
   rcases hb.2 with h0 | ⟨_,_,h,_⟩
   ·exact List.eq_nil_of_length_eq_zero (by rw[hb.1,h0])
   ·cases h
  subst hl
  have hn0:n=0:=hb.1.symm
  subst hn0
  go_enter Tryz.func159,Tryz.ntmps159
  go_wp2
  go_ret
  exact⟨_,rfl,OwnB.nil _ _,Ext.refl _⟩
 ·have ho:=OwnB.empty w (Nat.le_refl _)
  have hb':=(zb w (.cells #[] 5)).bytes hb
  have hB:w.heap.size≤(w.alloc (.cells #[] 5)).heap.size:=by simp
  have hl0:([]:List UInt8).length+n≤140737488355328:=by simpa using hn
  have hE:=zb w (.cells #[] 5)
  go_enter Tryz.func159,Tryz.ntmps159
  go_wp2_with (at_builtin;refine zw rfl (.tmp 5) (.tmp 6) rfl rfl ho rfl hb' hl0 hB ?_;intro v1 w1 hown1 hg1)
  go_ret
  exact⟨v1,rfl,hown1,ho.below hE hg1 hB⟩
end
end Go.Proofs.YtpmedpdjglcdpaaGreatDoor
