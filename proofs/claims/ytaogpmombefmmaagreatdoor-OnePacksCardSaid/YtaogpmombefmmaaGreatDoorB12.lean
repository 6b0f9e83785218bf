/- Contracts of the row of bits: number and zerosFrom. The document's Kraft of chapter 7. The document's Check of chapter 8. The document's Codes of chapter 8. Lists of rows of bytes: those that are read, and those of the call's own, whose row -/
import Derived.Test.YtaogpmombefmmaaGreatDoorB02
import Derived.Test.YtaogpmombefmmaaGreatDoorB06
import Derived.Test.YtaogpmombefmmaaGreatDoorB07
import Derived.Deep.QuietTactic
import Derived.BigQuiet
import Derived.Laws.OwnMore
import Derived.Maps.AppendAt
namespace Go.Proofs.YtaogpmombefmmaaGreatDoor
section
open Go.RowKit Len
theorem kraft_le (l:List UInt8):∀ n,kraftOf l n≤n*32768
 | 0=>by simp [kraftOf,sumN]
 | n+1=>by
  have:=kraft_le l n
  unfold kraftOf at *
  rw [sumN]
  have h:(if (l.getD n 0).toNat=0 then 0 else 2 ^ (15-(l.getD n 0).toNat))≤2 ^ 15:=by
   split
   ·omega
   ·exact Nat.pow_le_pow_right (by omega) (by omega)
  omega
def TellsI (k:IntKind)(w:World)(r:Nat×Int)(e:Ending)(w':World):Prop:=e=.returned (.tuple #[.int k ((r.1:Nat):Int),.int .i64 r.2])∧Ext w w'
set_option maxHeartbeats 2000000 in
set_option maxRecDepth 100000 in
theorem refKraft_any (A:Option Addr)(n c:Nat)(l:List UInt8)(w:World)(h:Bytes w w.heap.size A n l):Calls Tryz.prog 92 #[.slice A n c] w (TellsI .i64 w (kraftE l)):=by
 have hl:=h.1
 subst hl
 by_cases h300:(300:Int) < (l.length:Int)
 ·have HN:=hide (show kraftE l=(0,13) from if_neg (by omega))
  clear h
  go_enter Tryz.func92,Tryz.ntmps92
  go_wp2
  go_ret2
  rw [HN.out]
  exact ⟨rfl,Ext.refl _⟩
 ·have HBad:=hide (show ∀ i,i < l.length→15 < (l.getD i 0).toNat→kraftE l=(0,13) from fun i hi hb=>if_neg (fun h=>by have:=h.2 i hi;omega))
  have HOk:=hide (show (∀ i,i < l.length→(l.getD i 0).toNat≤15)→kraftE l=(kraftOf l l.length,0) from fun h=>if_pos ⟨by omega,h⟩)
  have HK:=hide (kraft_le l)
  have HS:=hide (show ∀ i,kraftOf l (i+1)=kraftOf l i+if (l.getD i 0).toNat=0 then 0 else 2 ^ (15-(l.getD i 0).toNat) from fun _=>rfl)
  have HZ:=hide (show kraftOf l 0=0 from rfl)
  generalize kraftE l=res at *
  go_enter Tryz.func92,Tryz.ntmps92
  go_wp2
  go_loopw [4,5] (fun a b wr=>∃ i s:Nat,i≤l.length∧b=.int .i64 (i:Int)∧a=.int .i64 (s:Int)∧s=kraftOf l i∧(∀ q,q < i→(l.getD q 0).toNat≤15)∧Ext w wr) (fun _ b _=>l.length-(intOf b).toNat)
  case atStart=>exact ⟨0,0,by omega,rfl,rfl,HZ.out.symm,fun q hq=>absurd hq (by omega),Ext.refl _⟩
  case round =>
   obtain ⟨i,s,hi,rfl,rfl,hs,hall,hE⟩:=hrel
   have HAll:=hide hall
   have HSS:=hide hs
   clear hall
   by_cases hlt:i < l.length
   ·rcases (hE.bytes h).2 with h0 | ⟨b,o,rfl,hB,hc⟩
    ·omega
    have hk:=hc i hlt
    have hyl:=UInt8.toNat_lt (l.getD i 0)
    have hSum:=HS.out i
    have hBad:=HBad.out i hlt
    have hkr:=HK.out i
    rw [← hs] at hkr hSum
    obtain ⟨y,hy⟩:∃ y,y=(l.getD i 0).toNat:=⟨_,rfl⟩
    rw [← hy] at hk hyl hSum hBad
    have HY:=hide hy
    have hil:(i:Int) < (l.length:Int):=by omega
    clear hc hy hs
    by_cases h15:(15:Int) < (y:Int)
    ·have HN:=hide (hBad (by omega))
     clear hBad hSum
     go_wp2
     go_ret2
     rw [HN.out]
     exact ⟨rfl,hE⟩
    ·by_cases h0:(0:Int) < (y:Int)
     ·rw [if_neg (by omega)] at hSum
      have HSum:=hide hSum
      clear hSum hBad
      obtain ⟨wa,rfl⟩:∃ W,W=wr:=⟨_,rfl⟩
      go_wp2_with fail
      go_loopw [6,7] (fun a b wr=>∃ k v:Nat,k≤y∧b=.int .i64 (k:Int)∧a=.int .i64 (v:Int)∧v=2 ^ (15-k)∧wr=wa) (fun _ b _=>y-(intOf b).toNat)
      case atStart=>exact ⟨0,32768,by omega,rfl,rfl,rfl,rfl⟩
      case round =>
       obtain ⟨k,v,hk1,rfl,rfl,hv,rfl⟩:=hrel
       by_cases hky:(k:Int) < (y:Int)
       ·have e:2 ^ (15-k)=2*2 ^ (15-(k+1)):=by rw [show 15-k=(15-(k+1))+1 by omega,Nat.pow_succ,Nat.mul_comm]
        have hb:2 ^ (15-(k+1))≤32768:=Nat.le_trans (Nat.pow_le_pow_right (by omega) (show 15-(k+1)≤15 by omega)) (by decide)
        obtain ⟨v',hv'⟩:∃ v,v=2 ^ (15-(k+1)):=⟨_,rfl⟩
        rw [← hv,← hv'] at e
        rw [← hv'] at hb
        have hq:((v:Nat):Int).tdiv 2=((v':Nat):Int):=by
         rw [Int.tdiv_eq_ediv_of_nonneg (by omega),e]
         omega
        have hb2:(v:Int)≤65536:=by omega
        have HV':=hide hv'
        clear e hv hv'
        go_wp2
        go_roundw
        case rel=>exact ⟨k+1,v',by omega,by go_num,by go_num,HV'.out,trivial⟩
        case measure=>simp [intOf];omega
       ·obtain rfl:k=y:=by omega
        have hb:2 ^ (15-k)≤32768:=Nat.le_trans (Nat.pow_le_pow_right (by omega) (show 15-k≤15 by omega)) (by decide)
        rw [← hv] at hb HSum
        clear hv
        go_wp2
        go_roundw
        case rel=>exact ⟨i+1,s+v,by omega,by go_num,by go_num,HSum.out.symm,fun q hq=>(by
         by_cases hqi:q=i
         ·rw [hqi,← HY.out];omega
         ·exact HAll.out q (by omega)),hE⟩
        case measure=>simp [intOf];omega
     ·rw [if_pos (by omega),Nat.add_zero] at hSum
      have HSum:=hide hSum
      clear hSum hBad
      go_wp2
      go_roundw
      case rel=>exact ⟨i+1,s,by omega,by go_num,rfl,HSum.out.symm,fun q hq=>(by
       by_cases hqi:q=i
       ·rw [hqi,← HY.out];omega
       ·exact HAll.out q (by omega)),hE⟩
      case measure=>simp [intOf];omega
   ·obtain rfl:l.length=i:=by omega
    have HN:=hide (HOk.out HAll.out)
    clear h
    rw [← hs] at HN
    clear hs
    go_wp2
    go_ret2
    rw [HN.out]
    exact ⟨rfl,hE⟩
end
section
open Go.RowKit Len Can
set_option maxHeartbeats 2000000 in
set_option maxRecDepth 100000 in
theorem refCheck_any (A:Option Addr)(n c:Nat)(l:List UInt8)(w:World)(h:Bytes w w.heap.size A n l):Calls Tryz.prog 78 #[.slice A n c] w fun e w'=>e=.returned (.int .i64 (checkE l))∧Ext w w':=by
 have hl:=h.1
 subst hl
 have C1:=refKraft_any A l.length c l w h
 by_cases hk:(kraftE l).2=0
 ·have HR:=hide (show ∀ r:Prop,((usedC l l.length=0∨usedC l l.length=1∧oneC l l.length=1∨(kraftE l).1=32768)↔r)→(r→checkE l=0)∧(¬ r→checkE l=7) from fun r hr=>⟨fun h=>check_right (decide_eq_true ⟨hk,hr.2 h⟩),fun h=>check_wrong (decide_eq_false fun h2=>h (hr.1 h2.2))⟩)
  obtain ⟨h300,_,hkw⟩:=kraft_ok hk
  have HU:=hide (show ∀ i,usedC l (i+1)=usedC l i+if lenAt l i=0 then 0 else 1 from fun _=>rfl)
  have HO:=hide (show ∀ i,oneC l (i+1)=oneC l i+if lenAt l i=1 then 1 else 0 from fun _=>rfl)
  have HU0:=hide (show usedC l 0=0 from rfl)
  have HO0:=hide (show oneC l 0=0 from rfl)
  unfold TellsI at C1
  rw [hk] at C1
  clear hk hkw
  generalize (kraftE l).1=kw at *
  generalize hck:checkE l=ck at *
  clear hck
  go_enter Tryz.func78,Tryz.ntmps78
  go_wp2_with fail
  refine C1.mono ?_
  rintro e w2 ⟨rfl,hE⟩
  clear C1
  go_wp2_with fail
  go_loopw [5,6,7] (fun a b d wr=>∃ i u o:Nat,i≤l.length∧d=.int .i64 (i:Int)∧a=.int .i64 (u:Int)∧b=.int .i64 (o:Int)∧u=usedC l i∧o=oneC l i∧u≤i∧o≤i∧Ext w wr) (fun _ _ d _=>l.length-(intOf d).toNat)
  case atStart=>exact ⟨0,0,0,Nat.zero_le _,rfl,rfl,rfl,HU0.out.symm,HO0.out.symm,Nat.le_refl _,Nat.le_refl _,hE⟩
  case round =>
   obtain ⟨i,u,o,hi,rfl,rfl,rfl,hu,ho,hui,hoi,hE2⟩:=hrel
   by_cases hlt:i < l.length
   ·rcases (hE2.bytes h).2 with h0 | ⟨b,off,rfl,hB,hc⟩
    ·omega
    have hk:=hc i hlt
    have hU:=HU.out i
    have hO:=HO.out i
    unfold lenAt at hU hO
    rw [← hu] at hU
    rw [← ho] at hO
    have hyl:=UInt8.toNat_lt (l.getD i 0)
    obtain ⟨y,hy⟩:∃ y,y=(l.getD i 0).toNat:=⟨_,rfl⟩
    rw [← hy] at hk hU hO hyl
    have hil:(i:Int) < (l.length:Int):=by omega
    clear hc hy hu ho h
    by_cases y0:y=0
    ·rw [if_pos y0] at hU
     rw [if_neg (by omega)] at hO
     have HU2:=hide hU
     have HO2:=hide hO
     subst y0
     clear hU hO
     go_wp2
     go_roundw
     case rel=>exact ⟨i+1,u,o,by omega,by go_num,rfl,rfl,HU2.out.symm,HO2.out.symm,by omega,by omega,hE2⟩
     case measure=>simp [intOf];omega
    ·rw [if_neg y0] at hU
     have hy0:(0:Int) < (y:Int):=by omega
     by_cases y1:y=1
     ·rw [if_pos y1] at hO
      have HU2:=hide hU
      have HO2:=hide hO
      subst y1
      clear hU hO
      go_wp2
      go_roundw
      case rel=>exact ⟨i+1,u+1,o+1,by omega,by go_num,by go_num,by go_num,HU2.out.symm,HO2.out.symm,by omega,by omega,hE2⟩
      case measure=>simp [intOf];omega
     ·rw [if_neg y1] at hO
      have HU2:=hide hU
      have HO2:=hide hO
      have hyb:((y:Int) == 1)=false:=by rw [beq_eq_false_iff_ne];omega
      clear hU hO
      go_wp2
      go_roundw
      case rel=>exact ⟨i+1,u+1,o,by omega,by go_num,by go_num,rfl,HU2.out.symm,HO2.out.symm,by omega,by omega,hE2⟩
      case measure=>simp [intOf];omega
   ·obtain rfl:l.length=i:=by omega
    have HRu:=hide (HR.out (u=0∨u=1∧o=1∨kw=32768) (by rw [hu,ho]))
    clear hu ho h
    by_cases u0:u=0
    ·have HK:=hide (HRu.out.1 (.inl u0))
     subst u0
     clear HRu
     go_wp2
     go_ret
     exact ⟨ret_i64 HK.out.symm,hE2⟩
    ·have hub:((u:Int) == 0)=false:=by rw [beq_eq_false_iff_ne];omega
     by_cases hk:kw=32768
     ·have HK:=hide (HRu.out.1 (.inr (.inr hk)))
      subst hk
      by_cases u1:u=1
      ·subst u1
       by_cases o1:o=1
       ·subst o1
        clear HRu
        go_wp2
        go_ret
        exact ⟨ret_i64 HK.out.symm,hE2⟩
       ·have hob:((o:Int) == 1)=false:=by rw [beq_eq_false_iff_ne];omega
        clear HRu
        go_wp2
        go_ret
        exact ⟨ret_i64 HK.out.symm,hE2⟩
      ·have hu1:((u:Int) == 1)=false:=by rw [beq_eq_false_iff_ne];omega
       clear HRu
       go_wp2
       go_ret
       exact ⟨ret_i64 HK.out.symm,hE2⟩
     ·have hkb:((kw:Int) == 32768)=false:=by rw [beq_eq_false_iff_ne];omega
      by_cases u1:u=1
      ·subst u1
       by_cases o1:o=1
       ·have HK:=hide (HRu.out.1 (.inr (.inl ⟨rfl,o1⟩)))
        subst o1
        clear HRu
        go_wp2
        go_ret
        exact ⟨ret_i64 HK.out.symm,hE2⟩
       ·have HK:=hide (HRu.out.2 (by omega))
        have hob:((o:Int) == 1)=false:=by rw [beq_eq_false_iff_ne];omega
        clear HRu
        go_wp2
        go_ret
        exact ⟨ret_i64 HK.out.symm,hE2⟩
      ·have HK:=hide (HRu.out.2 (by omega))
       have hu1:((u:Int) == 1)=false:=by rw [beq_eq_false_iff_ne];omega
       clear HRu
       go_wp2
       go_ret
       exact ⟨ret_i64 HK.out.symm,hE2⟩
 ·have HN:=hide (show checkE l=7 from check_wrong (decide_eq_false fun h2=>hk h2.1))
  have h13:(kraftE l).2=13:=by
   unfold kraftE at hk ⊢
   split at hk
   ·exact absurd rfl hk
   ·rename_i h2
    rw [if_neg h2]
  unfold TellsI at C1
  rw [h13] at C1
  generalize (kraftE l).1=kw at *
  generalize checkE l=ck at *
  clear hk h13 h
  go_enter Tryz.func78,Tryz.ntmps78
  go_wp2_with fail
  refine C1.mono ?_
  rintro e w2 ⟨rfl,hE⟩
  go_wp2
  go_ret
  exact ⟨ret_i64 HN.out.symm,hE⟩
end
section
open Go.RowKit Len Can
def TellsH (w:World)(r:List Nat×Int)(e:Ending)(w':World):Prop:=∃ v,e=.returned (.tuple #[v,.int .i64 r.2])∧OwnH w' w.heap.size v r.1∧Ext w w'
set_option maxHeartbeats 4000000 in
set_option maxRecDepth 100000 in
theorem refCodes_any (A:Option Addr)(n c:Nat)(l:List UInt8)(w:World)(h:Bytes w w.heap.size A n l):Calls Tryz.prog 79 #[.slice A n c] w (TellsH w (codesE l)):=by
 have hl:=h.1
 subst hl
 have C1:=refCheck_any A l.length c l w h
 cases hr:right l with
 | false =>
  have HN:=hide (show codesE l=([],7) by unfold codesE;rw [hr];rfl)
  rw [check_wrong hr] at C1
  generalize codesE l=res at *
  clear hr h
  go_enter Tryz.func79,Tryz.ntmps79
  go_wp2_with fail
  refine C1.mono ?_
  rintro e w2 ⟨rfl,hE⟩
  go_wp2
  go_ret2
  rw [HN.out]
  exact ⟨_,rfl,OwnH.nil _ _,hE⟩
 | true =>
  have HN:=hide (show codesE l=(codesL l,0) by unfold codesE;rw [hr];rfl)
  rw [check_right hr] at C1
  obtain ⟨h300,h15,_⟩:=right_facts hr
  have HR:=hide hr
  have H15:=hide h15
  have HSt:=hide (Words.start (l:=l))
  generalize codesE l=res at *
  clear hr h15
  obtain ⟨N,hN⟩:∃ N,N=l.length:=⟨_,rfl⟩
  have HNl:=hide hN
  rw [← hN] at C1 h300 ⊢
  rw [← hN] at h
  have HB:=hide h
  clear hN h
  go_enter Tryz.func79,Tryz.ntmps79
  go_wp2_with fail
  refine C1.mono ?_
  rintro e w2 ⟨rfl,hE⟩
  clear C1
  go_wp2_with fail
  go_loopw [4,5] (fun a b wr=>∃ k:Nat,k≤N∧b=.int .i64 (k:Int)∧OwnH wr w.heap.size a (List.replicate k 0)∧Ext w wr) (fun _ b _=>N-(intOf b).toNat)
  case atStart=>exact ⟨0,by omega,rfl,OwnH.nil _ _,hE⟩
  case round =>
   obtain ⟨k,hk,rfl,hO,hE2⟩:=hrel
   by_cases hkj:k < N
   ·have hkI:(k:Int) < (N:Int):=by omega
    have hEa:=extNew wr (.cells #[.int .u16 0] 131)
    have hOa:=hO.ext hEa
    have hsb:=hE2.le
    have hl0:(List.replicate k (0:Nat)).length≤1000:=by simp;omega
    go_wp2_with (at_builtin;refine wpList_appH rfl (.tmp 21) (.tmp 22) rfl rfl 0 hOa rfl hl0 hsb ?_;intro v5 w5 hO5 hG5)
    have hE5:Ext w w5:=Below.grown (hE2.trans hEa) hG5 (hE2.trans hEa).le (fun k hk=>(hO.lt k hk).1)
    have e:List.replicate k (0:Nat)++[0]=List.replicate (k+1) 0:=List.replicate_succ'.symm
    rw [e] at hO5
    go_roundw
    case rel=>exact ⟨k+1,by omega,by go_num,hO5,hE5⟩
    case measure=>simp [intOf];omega
   ·obtain rfl:N=k:=by omega
    clear hkj hk
    have hst:=HSt.out
    rw [← HNl.out] at hst
    obtain ⟨Z,hZ⟩:∃ Z,Z=List.replicate N (0:Nat):=⟨_,rfl⟩
    have hZl:Z.length=N:=by rw [hZ];simp
    rw [← hZ] at hO hst
    obtain ⟨Av,cv,rfl,hcv,_,hav⟩:=hO.form
    rw [hZl] at hcv ⊢
    have HO:=hide hO
    have HS:=hide hst
    have HZl:=hide hZl
    clear hZ hO hst hZl
    obtain ⟨wa,rfl⟩:∃ W,W=wr:=⟨_,rfl⟩
    go_wp2_with fail
    go_loopw [6,7,8,9] (fun a b d x wq=>∃ (k nx was:Nat) (any:Bool) (O:List Nat),1≤k∧k≤16∧x=.int .i64 (k:Int)∧a=.int .i64 (nx:Int)∧b=.int .i64 (was:Int)∧d=.bool any∧Words l k 0 nx was any O∧OwnH wq w.heap.size (.slice Av N cv) O∧Ext w wq) (fun _ _ _ x _=>17-(intOf x).toNat)
    case atStart=>exact ⟨1,0,0,false,Z,by omega,by omega,rfl,rfl,rfl,rfl,HS.out,by have:=HO.out;rw [HZl.out] at this;exact this,hE2⟩
    case round =>
     obtain ⟨k,nx,was,any,O,hk1,hk16,rfl,rfl,rfl,rfl,hW,hO,hE3⟩:=hrel
     by_cases hk15:k≤15
     ·have hkI:(k:Int)≤15:=by omega
      have HW0:=hide hW
      have HO0:=hide hO
      obtain ⟨wb,rfl⟩:∃ W,W=wr:=⟨_,rfl⟩
      clear hW hO
      go_wp2_with fail
      go_loopw [6,7,8,10] (fun a b d x wq=>∃ (s nx was:Nat) (any:Bool) (O:List Nat),s≤N∧x=.int .i64 (s:Int)∧a=.int .i64 (nx:Int)∧b=.int .i64 (was:Int)∧d=.bool any∧Words l k s nx was any O∧OwnH wq w.heap.size (.slice Av N cv) O∧Ext w wq) (fun _ _ _ x _=>N-(intOf x).toNat)
      case atStart=>exact ⟨0,nx,was,any,O,Nat.zero_le _,rfl,rfl,rfl,rfl,HW0.out,HO0.out,hE3⟩
      case round =>
       clear HW0 HO0 hE3
       obtain ⟨s,nx,was,any,O,hs,rfl,rfl,rfl,rfl,hW,hO,hE3⟩:=hrel
       have hsm:=hW.small HR.out
       have HW:=hide hW
       have HO1:=hide hO
       by_cases hsN:s < N
       ·have hsI:(s:Int) < (N:Int):=by omega
        rcases (hE3.bytes HB.out).2 with h0 | ⟨b,off,rfl,hbl,hc⟩
        ·omega
        have hcell:=hc s hsN
        have hy8:=UInt8.toNat_lt (l.getD s 0)
        obtain ⟨y,hy⟩:∃ y,y=lenAt l s:=⟨_,rfl⟩
        have hcl:wr.cell? ⟨b,off+s,none⟩=some (.int .u8 (y:Int)):=by rw [hy];exact hcell
        have hy8':y < 256:=by rw [hy];exact hy8
        have HY:=hide hy
        clear hc hcell hy8 hy hW
        by_cases hyk:y=k
        ·have hyb:((y:Int) != (k:Int))=false:=by simp [hyk]
         have HYk:=hide hyk
         clear hyk
         have hput:=HW.out.put hk1 hk15 (by rw [← HNl.out];exact hsN) (by rw [← HY.out];exact HYk.out)
         have hpsm:=hput.small HR.out
         obtain ⟨gO,rfl,hgb,hgl⟩:∃ g,Av=some ⟨g,0,none⟩∧w.heap.size≤g∧g < wr.heap.size:=by
          obtain ⟨A9,c9,e9,_,_,h9⟩:=hO.form
          simp only [Value.slice.injEq] at e9
          obtain ⟨rfl,e10,rfl⟩:=e9
          rcases h9 with h9 | ⟨g,e,hg⟩
          ·omega
          ·exact ⟨g,e,hg⟩
         have hOl:O.length=N:=by rw [HW.out.len,← HNl.out]
         rw [← hOl] at hO
         obtain ⟨k1,k2⟩:=hO.cell (i:=s) (by omega)
         have hset:=fun x=>hO.set s x
         rw [hOl] at hset
         have HSet:=hide hset
         clear hset hO hOl
         cases any with
         | false =>
          have hw16:IntKind.u16.wrap (nx:Int)=(nx:Int):=by simp [IntKind.wrap,IntKind.bits,IntKind.signed];omega
          have hG:=grown_setCell wr gO s (.int .u16 (nx:Int))
          have HPut:=hide hput
          clear hput
          go_wp2
          go_roundw
          case rel=>exact ⟨s+1,nx,k,true,O.set s nx,by omega,by go_num,rfl,rfl,rfl,HPut.out,HSet.out nx,Below.grown hE3 hG hE3.le (fun j hj=>by cases hj;exact hgb)⟩
          case measure=>simp [intOf];omega
         | true =>
          have hy3:=HW.out.yes rfl
          have HPut:=hide hput
          have hwk:was≤k:=hy3.2.2
          have hw1:1≤was:=hy3.2.1
          clear hput hy3
          obtain ⟨wc,rfl⟩:∃ W,W=wr:=⟨_,rfl⟩
          have HSm:=hide (show ∀ j,j≤k→was≤j→(nx+1)*2 ^ (j-was)≤32768 from fun j hj1 hj2=>by
           have h1:nextW true nx was k < 32768:=hpsm
           unfold nextW at h1
           rw [if_pos rfl] at h1
           have h2:2 ^ (j-was)≤2 ^ (k-was):=Nat.pow_le_pow_right (by omega) (by omega)
           have h3:=Nat.mul_le_mul_left (nx+1) h2
           omega)
          go_wp2_with fail
          go_loopw [6,11] (fun a x wq=>∃ j v:Nat,was≤j∧j≤k∧x=.int .i64 (j:Int)∧a=.int .i64 (v:Int)∧v=(nx+1)*2 ^ (j-was)∧wq=wc) (fun _ x _=>k-(intOf x).toNat)
          case atStart=>exact ⟨was,nx+1,Nat.le_refl _,hwk,rfl,by go_num,by simp,rfl⟩
          case round =>
           obtain ⟨j,v,hj1,hj2,rfl,rfl,hv,rfl⟩:=hrel
           have hvs:v≤32768:=by rw [hv];exact HSm.out j hj2 hj1
           by_cases hjk:j < k
           ·have hjI:(j:Int) < (k:Int):=by omega
            have HV:=hide (show 2*v=(nx+1)*2 ^ (j+1-was) by rw [hv,show j+1-was=(j-was)+1 by omega,Nat.pow_succ,Nat.mul_comm 2,Nat.mul_assoc])
            clear hv
            go_wp2
            go_roundw
            case rel=>exact ⟨j+1,2*v,by omega,by omega,by go_num,by go_num,HV.out,trivial⟩
            case measure=>simp [intOf];omega
           ·obtain rfl:j=k:=by omega
            have hv2:v=nextW true nx was j:=by unfold nextW;rw [if_pos rfl];exact hv
            have hP2:=HPut.out
            rw [← hv2] at hP2
            have HP2:=hide hP2
            have hvl:v < 32768:=hP2.small HR.out
            have hw16:IntKind.u16.wrap (v:Int)=(v:Int):=by simp [IntKind.wrap,IntKind.bits,IntKind.signed];omega
            have hG:=grown_setCell wr gO s (.int .u16 (v:Int))
            clear hv hv2 hP2
            go_wp2
            go_roundw
            case rel=>exact ⟨s+1,v,j,true,O.set s v,by omega,by go_num,rfl,rfl,rfl,HP2.out,HSet.out v,Below.grown hE3 hG hE3.le (fun j hj=>by cases hj;exact hgb)⟩
            case measure=>simp [intOf];omega
        ·have hyb:((y:Int) != (k:Int))=true:=by simp;omega
         have HP:=hide (HW.out.pass hk1 (by rw [← HNl.out];exact hsN) (by rw [← HY.out];exact hyk))
         clear hO
         go_wp2
         go_roundw
         case rel=>exact ⟨s+1,nx,was,any,O,by omega,by go_num,rfl,rfl,rfl,HP.out,HO1.out,hE3⟩
         case measure=>simp [intOf];omega
       ·have hs2:s=N:=by omega
        have hnI:¬ (s:Int) < (N:Int):=by omega
        have hW2:=HW.out
        rw [hs2,HNl.out] at hW2
        have HP:=hide hW2.turn
        clear hW2 hW hO hs2
        go_wp2
        go_roundw
        case rel=>exact ⟨k+1,nx,was,any,O,by omega,by omega,by go_num,rfl,rfl,rfl,HP.out,HO1.out,hE3⟩
        case measure=>simp [intOf];omega
     ·obtain rfl:k=16:=by omega
      have hOe:=hW.all HR.out
      have HOe:=hide hOe
      have HO1:=hide hO
      clear hW hO hOe
      go_wp2
      go_ret2
      rw [HN.out]
      exact ⟨_,rfl,by rw [← HOe.out];exact HO1.out,hE3⟩
end
section
open Go.RowKit
def RowOf (w:World)(B:Nat)(x:Value)(l:List UInt8):Prop:=∃ A k,x=.slice A l.length k∧l.length≤k∧k≤maxLen∧Bytes w B A l.length l
def RowsAt (w:World)(B:Nat)(A:Option Addr)(n:Nat)(ls:List (List UInt8)):Prop :=
 ls.length=n∧(n=0∨∃ b off,A=some ⟨b,off,none⟩∧b < B∧∀ i,i < n→∃ x,w.cell? ⟨b,off+i,none⟩=some x∧RowOf w B x (ls.getD i []))
section
variable {w w':World}{B n:Nat}{x:Value}{l:List UInt8}{A:Option Addr}{ls:List (List UInt8)}
theorem RowOf.ext (h:RowOf w w.heap.size x l)(hE:Ext w w'):RowOf w' w'.heap.size x l:=by
 obtain ⟨A,k,h1,h2,h3,h4⟩:=h
 exact ⟨A,k,h1,h2,h3,hE.bytes h4⟩
end
theorem rw_info:(Tryz.prog.info? 29).map (fun i=>(i.zero,i.size,i.bytes))=some (some (.slice none 0 0),1,24):=by kernel_rfl
def Clear (v x:Value):Prop:=∀ A n k,x=.slice A n k→n=0∨∀ b off,A=some ⟨b,off,none⟩→v.ownBlock≠some b
structure OwnP (w:World)(base:Nat)(v:Value)(ls:List (List UInt8)):Prop where
 own:∃ R:Nat→Value,w.ownsRow base 29 1 v ls.length ((List.range ls.length).map R)∧∀ i,i < ls.length→RowOf w w.heap.size (R i) (ls.getD i [])∧Clear v (R i)
section
variable {w w':World}{base:Nat}{v x:Value}{l:List UInt8}{ls:List (List UInt8)}
theorem OwnP.nil (w:World)(base:Nat):OwnP w base (.slice none 0 0) []:=⟨fun _=>default,World.ownsRow_nil w base _ _,fun i hi=>absurd hi (by simp)⟩
theorem OwnP.ext (h:OwnP w base v ls)(hE:Ext w w'):OwnP w' base v ls:=by
 obtain ⟨R,h1,h2⟩:=h.own
 exact ⟨R,World.ownsRow.kept h1 (hE.grown none) (by cases hv:v.ownBlock <;> simp),fun i hi=>⟨(h2 i hi).1.ext hE,(h2 i hi).2⟩⟩
theorem OwnP.lt (h:OwnP w base v ls):∀ k,v.ownBlock=some k→base≤k∧k < w.heap.size:=by
 obtain ⟨R,h1,_⟩:=h.own
 exact h1.lt
theorem OwnP.mono {b':Nat}(h:OwnP w base v ls)(hb:b'≤base):OwnP w b' v ls:=by
 obtain ⟨R,h1,h2⟩:=h.own
 exact ⟨R,⟨h1.1,h1.2.elim Or.inl fun ⟨g,cap,cur,hv,hg,r⟩=>Or.inr ⟨g,cap,cur,hv,Nat.le_trans hb hg,r⟩⟩,h2⟩
theorem OwnP.form (h:OwnP w base v ls):∃ A c,v=.slice A ls.length c∧ls.length≤c∧c≤maxLen∧RowsAt w w.heap.size A ls.length ls:=by
 obtain ⟨R,h1,h2⟩:=h.own
 have hl:=h1.lt
 rcases h1.2 with ⟨rfl,h0⟩ | ⟨g,cap,cur,rfl,hb,hg,hn,hc,hs,ht⟩
 ·exact ⟨none,0,by rw [h0],by omega,by unfold maxLen;omega,rfl,.inl h0⟩
 ·refine ⟨_,cap,rfl,hn,hc,rfl,.inr ⟨g,0,rfl,(hl g rfl).2,fun i hi=>⟨R i,?_,(h2 i hi).1⟩⟩⟩
  rw [Nat.zero_add,World.ownsRow.cellAt h1 i (by omega)]
  simp [hi]
theorem Clear.later {v':Value}{H:Nat}(hc:Clear v x)(hx:RowOf w w.heap.size x l)(hH:w.heap.size≤H)(hN:v'.ownBlock=v.ownBlock∨v'.ownBlock=some H):Clear v' x:=by
 intro A n k e
 obtain ⟨A',k',e',_,_,h4⟩:=hx
 rw [e'] at e
 simp only [Value.slice.injEq] at e
 obtain ⟨rfl,rfl,rfl⟩:=e
 rcases hc _ _ _ e' with h0 | h1
 ·exact .inl h0
 rcases h4.2 with h0 | ⟨b,off,rfl,hB,_⟩
 ·exact .inl h0
 ·refine .inr fun b' off' e2=>?_
  simp only [Option.some.injEq,Addr.mk.injEq,and_true] at e2
  obtain ⟨rfl,rfl⟩:=e2
  rcases hN with h | h
  ·rw [h]
   exact h1 _ _ rfl
  ·rw [h]
   intro e3
   injection e3 with e3
   omega
theorem Clear.own {H:Nat}(hx:OwnB w H x l)(hv:∀ k,v.ownBlock=some k→k < H):Clear v x:=by
 intro A n k e
 rcases hx.2 with ⟨rfl,h0⟩ | ⟨g,cap,cur,rfl,hb,_⟩
 ·simp only [Value.slice.injEq] at e
  exact .inl e.2.1.symm
 ·refine .inr fun b off e2 h=>?_
  simp only [Value.slice.injEq] at e
  rw [← e.1] at e2
  simp only [Option.some.injEq,Addr.mk.injEq,and_true] at e2
  have:=hv _ h
  omega
theorem RowOf.grown (hx:RowOf w w.heap.size x l)(hc:Clear v x)(hG:w.grownBy w' v.ownBlock):RowOf w' w'.heap.size x l:=by
 obtain ⟨A,k,e,h2,h3,h4⟩:=hx
 refine ⟨A,k,e,h2,h3,h4.1,?_⟩
 rcases hc _ _ _ e with h0 | h1
 ·exact .inl h0
 rcases h4.2 with h0 | ⟨b,off,rfl,hB,hcell⟩
 ·exact .inl h0
 ·refine .inr ⟨b,off,rfl,Nat.lt_of_lt_of_le hB hG.size,fun i hi=>?_⟩
  rw [← hcell i hi]
  exact World.cell?_of_block (a:=⟨b,off+i,none⟩) (hG.block b hB (fun e=>h1 b off rfl e.symm))
theorem OwnP.app {R:Nat→Value}(h2:∀ i,i < ls.length→RowOf w w.heap.size (R i) (ls.getD i [])∧Clear v (R i)){v':Value}{H:Nat}{ms:List (List UInt8)}{X:Nat→Value}(hX:∀ i,i < ms.length→RowOf w w.heap.size (X i) (ms.getD i [])∧Clear v (X i))(hH:w.heap.size≤H)
  (hO:w'.ownsRow base 29 1 v' (ls.length+ms.length) ((List.range ls.length).map R++(List.range ms.length).map X))
  (hG:w.grownBy w' v.ownBlock) (hN:v'.ownBlock=v.ownBlock∨v'.ownBlock=some H):OwnP w' base v' (ls++ms):=by
 refine ⟨fun i=>if i < ls.length then R i else X (i-ls.length),?_,fun i hi=>?_⟩
 ·have e:(List.range (ls++ms).length).map (fun i=>if i < ls.length then R i else X (i-ls.length))=(List.range ls.length).map R++(List.range ms.length).map X:=by
   apply List.ext_getElem?
   intro i
   rw [List.length_append]
   by_cases hi:i < ls.length
   ·rw [List.getElem?_append_left (by simpa using hi)]
    simp [hi,show i < ls.length+ms.length by omega]
   ·rw [List.getElem?_append_right (by simpa using Nat.le_of_not_lt hi)]
    by_cases hi2:i < ls.length+ms.length
    ·simp [hi,hi2,show i-ls.length < ms.length by omega]
    ·rw [List.getElem?_eq_none (by simp;omega),List.getElem?_eq_none (by simp;omega)]
  rw [e,List.length_append]
  exact hO
 ·rw [List.length_append] at hi
  by_cases hil:i < ls.length
  ·obtain ⟨a,b⟩:=h2 i hil
   have e:(ls++ms).getD i []=ls.getD i []:=by simp [List.getD_eq_getElem?_getD,List.getElem?_append_left hil]
   simp only [hil,if_true]
   rw [e]
   exact ⟨a.grown b hG,b.later a hH hN⟩
  ·obtain ⟨a,b⟩:=hX (i-ls.length) (by omega)
   have e:(ls++ms).getD i []=ms.getD (i-ls.length) []:=by simp [List.getD_eq_getElem?_getD,List.getElem?_append_right (Nat.le_of_not_lt hil)]
   simp only [hil,if_false]
   rw [e]
   exact ⟨a.grown b hG,b.later a hH hN⟩
end
section
variable {o:Oper}{a:Act}{K:Act→World→Prop}{Q:Exit→Act→World→Prop}{w:World}{base:Nat}{v:Value}{ls:List (List UInt8)}
theorem wpList_appP {ops:Array Oper}{rest:List Oper}(hgd:o.guard=none)(s x:Operand)(ho:o.op=.call { callee:=.builtin .append,args:=#[s,x],argTypes:=#[49,49] })(hs:a.eval s=v){A:Option Addr}{m k:Nat}{l:List UInt8}
  (h:OwnP w base v ls) (hr:RowOf w w.heap.size (.slice A m k) l) (hcl:Clear v (.slice A m k)) {c:Nat} (hx:a.eval x=.slice (some ⟨w.heap.size,0,none⟩) 1 c) (hlen:ls.length≤1000) (hbase:base≤w.heap.size)
  (hk:∀ v' w',OwnP w' base v' (ls++[l])→(w.alloc (.cells #[.slice A m k] 29)).grownBy w' v.ownBlock→wpList Tryz.prog ops Q rest (a.put o.dst v') w') :
  wpList Tryz.prog ops Q (o :: rest) a (w.alloc (.cells #[.slice A m k] 29)):=by
 obtain ⟨i,hi,hz,hsz,hby⟩:=info_parts rw_info
 have hE:=extNew w (.cells #[.slice A m k] 29)
 obtain ⟨R,h1,h2⟩:=(h.ext hE).own
 refine wpList_append_own_at _ hgd s x 49 ho base 29 i _ 1 24 Tryz.underlying49 hi hz hsz hby rfl (by omega) v ls.length _ hs h1 ⟨w.heap.size,0,none⟩ 1 c [.slice A m k] hx rfl (by
  intro j u hu
  match j,hu with
  | 0,hu =>
   have:(⟨w.heap.size,0,none⟩:Addr).add 0=⟨w.heap.size,0,none⟩:=rfl
   rw [this,cellNew]
   simpa using hu
  | j+1,hu=>simp at hu) (by
  intro u hu
  simp at hu
  subst hu
  rfl) (by unfold maxLen;omega) (by omega) (by simp;omega) ?_
 intro v' w' h3 h4 _ h5
 refine hk v' w' (OwnP.app (X:=fun _=>.slice A m k) h2 (fun i hi=>?_) (Nat.le_refl _) ?_ h4 h5) h4
 ·obtain rfl:i=0:=by simpa using hi
  exact ⟨hr.ext hE,hcl⟩
 ·simpa using h3
end
end
section
open Go.RowKit Len Can
def Can.cntV (f:Nat→Nat):Array Value:=((List.range 16).map fun k=>Value.int .i64 ((f k:Nat):Int)).toArray
theorem Can.cntV_size (f:Nat→Nat):(cntV f).size=16:=by simp [cntV]
theorem Can.cntV_at (f:Nat→Nat){k:Nat}(hk:k < 16):(cntV f)[k]?=some (.int .i64 ((f k:Nat):Int)):=by simp [cntV,hk]
theorem Can.cntV_one (f:Nat→Nat):(cntV f).all (·.oneCell')=true:=by
 simp [cntV]
 intros
 rfl
theorem cnt_info:(Tryz.prog.info? 186).map (·.size)=some 16:=by kernel_rfl
set_option maxHeartbeats 2000000 in
set_option maxRecDepth 100000 in
theorem cRight_any (f:Nat→Nat)(hf:∀ k,f k≤300)(w:World):Calls Tryz.prog 126 #[.agg (cntV f)] w fun e w'=>e=.returned (.bool (rightF f))∧Ext w w':=by
 have hE1:=extNew w (.cells (cntV f) 186)
 have hW1:=Whole.new w 186 (cntV f)
 have HA:=hide (show ∀ k,k < 16→(cntV f)[k]?=some (.int .i64 ((f k:Nat):Int)) from fun k hk=>cntV_at f hk)
 have HF:=hide hf
 have HW0:=hide (show wordsF f 0=0 from rfl)
 have HG0:=hide (show weightF f 0=0 from rfl)
 have HWS:=hide (show ∀ j,wordsF f (j+1)=wordsF f j+f (j+1) from fun _=>rfl)
 have HGS:=hide (show ∀ j,weightF f (j+1)=weightF f j+f (j+1)*2 ^ (15-(j+1)) from fun _=>rfl)
 have HWL:=hide (wordsF_le hf)
 have HGL:=hide (weightF_le hf)
 have HR:=hide (show ∀ r:Prop,((wordsF f 15=0∨wordsF f 15=1∧f 1=1∨weightF f 15=32768)↔r)→(r→rightF f=true)∧(¬ r→rightF f=false) from fun r hr=>⟨fun h=>decide_eq_true (hr.2 h),fun h=>decide_eq_false fun h2=>h (hr.1 h2)⟩)
 clear hf
 generalize cntV f=cs at *
 generalize rightF f=res at *
 go_enter Tryz.func126,Tryz.ntmps126
 go_wp2
 go_loopw [5,3,4] (fun x a b wr=>∃ j u v:Nat,j≤15∧x=.int .i64 ((j+1:Nat):Int)∧a=.int .i64 (u:Int)∧b=.int .i64 (v:Int)∧u=wordsF f j∧v=weightF f j∧Whole wr w.heap.size 186 cs∧Ext w wr) (fun x _ _ _=>17-(intOf x).toNat)
 case atStart=>exact ⟨0,0,0,by omega,rfl,rfl,rfl,HW0.out.symm,HG0.out.symm,hW1,hE1⟩
 case round =>
  obtain ⟨j,u,v,hj,rfl,rfl,rfl,hu,hv,hW,hE⟩:=hrel
  have hub:=HWL.out j
  have hvb:=HGL.out j
  rw [← hu] at hub
  rw [← hv] at hvb
  by_cases hlt:j < 15
  ·have hjI:((j+1:Nat):Int)≤15:=by omega
   have hc:=hW.at (j+1) (HA.out (j+1) (by omega))
   have hyl:=HF.out (j+1)
   have HU:=HWS.out j
   have HV:=HGS.out j
   rw [← hu] at HU
   rw [← hv] at HV
   generalize f (j+1)=y at *
   have hp:2 ^ (15-(j+1))≤32768:=Nat.le_trans (Nat.pow_le_pow_right (by omega) (show 15-(j+1)≤15 by omega)) (by decide)
   have hyp:=Nat.mul_le_mul hyl hp
   have HUh:=hide HU
   have HVh:=hide HV
   clear HU HV hu hv
   go_wp2
   have hw:wrap64 ((v:Int)+wrap64 ((y:Int)*2 ^ (14-j)))=((v+y*2 ^ (15-(j+1)):Nat):Int):=by
    have e:(y:Int)*2 ^ (14-j)=((y*2 ^ (15-(j+1)):Nat):Int):=by rw [Int.natCast_mul,Int.natCast_pow,show 15-(j+1)=14-j by omega];rfl
    rw [e]
    generalize y*2 ^ (15-(j+1))=z at *
    unfold wrap64
    omega
   rw [hw]
   go_roundw
   case rel=>exact ⟨j+1,u+y,v+y*2 ^ (15-(j+1)),by omega,by go_num,by go_num,rfl,HUh.out.symm,HVh.out.symm,hW,hE⟩
   case measure=>simp [intOf];omega
  ·obtain rfl:j=15:=by omega
   have hjI:¬ ((15+1:Nat):Int)≤15:=by omega
   have HRu:=hide (HR.out (u=0∨u=1∧f 1=1∨v=32768) (by rw [hu,hv]))
   have hc:=hW.at 1 (HA.out 1 (by omega))
   clear hu hv
   generalize f 1=y at *
   by_cases h0:u=0
   ·have HK:=hide (HRu.out.1 (.inl h0))
    clear HRu
    subst h0
    go_wp2
    go_ret
    exact ⟨ret_bool HK.out.symm,hE⟩
   ·have h0b:((u:Int) == 0)=false:=by rw [beq_eq_false_iff_ne];omega
    by_cases hv:v=32768
    ·have HK:=hide (HRu.out.1 (.inr (.inr hv)))
     clear HRu
     subst hv
     by_cases h1:u=1
     ·subst h1
      by_cases hy:y=1
      ·subst hy
       go_wp2
       go_ret
       exact ⟨ret_bool HK.out.symm,hE⟩
      ·have hyb:((y:Int) == 1)=false:=by rw [beq_eq_false_iff_ne];omega
       go_wp2
       go_ret
       exact ⟨ret_bool HK.out.symm,hE⟩
     ·have h1b:((u:Int) == 1)=false:=by rw [beq_eq_false_iff_ne];omega
      go_wp2
      go_ret
      exact ⟨ret_bool HK.out.symm,hE⟩
    ·have hvb2:((v:Int) == 32768)=false:=by rw [beq_eq_false_iff_ne];omega
     by_cases h1:u=1
     ·by_cases hy:y=1
      ·have HK:=hide (HRu.out.1 (.inr (.inl ⟨h1,hy⟩)))
       clear HRu
       subst h1
       subst hy
       go_wp2
       go_ret
       exact ⟨ret_bool HK.out.symm,hE⟩
      ·have hyb:((y:Int) == 1)=false:=by rw [beq_eq_false_iff_ne];omega
       have HK:=hide (HRu.out.2 (by omega))
       clear HRu
       subst h1
       go_wp2
       go_ret
       exact ⟨ret_bool HK.out.symm,hE⟩
     ·have h1b:((u:Int) == 1)=false:=by rw [beq_eq_false_iff_ne];omega
      have HK:=hide (HRu.out.2 (by omega))
      clear HRu
      go_wp2
      go_ret
      exact ⟨ret_bool HK.out.symm,hE⟩
def Can.h16A (f:Nat→Nat):Array Value:=((List.range 16).map fun k=>h16V (f k)).toArray
theorem Can.h16A_size (f:Nat→Nat):(h16A f).size=16:=by simp [h16A]
theorem Can.h16A_at (f:Nat→Nat){k:Nat}(hk:k < 16):(h16A f)[k]?=some (.int .u16 ((f k:Nat):Int)):=by simp [h16A,hk,h16V]
theorem Can.h16A_one (f:Nat→Nat):(h16A f).all (·.oneCell')=true:=by
 simp [h16A,h16V]
 intros
 rfl
theorem Can.h16A_set (f g:Nat→Nat)(k x:Nat)(h:∀ j,j < 16→g j=if j=k then x else f j):(h16A f).setIfInBounds k (.int .u16 (x:Int))=h16A g:=by
 apply Array.ext_getElem?
 intro i
 rcases Nat.lt_or_ge i 16 with hi | hi
 ·rw [h16A_at g hi,h i hi]
  by_cases e:k=i
  ·subst e
   rw [Array.getElem?_setIfInBounds_self_of_lt (by rw [h16A_size];exact hi),if_pos rfl]
  ·rw [Array.getElem?_setIfInBounds_ne e,h16A_at f hi,if_neg (by omega)]
 ·rw [Array.getElem?_eq_none (by rw [Array.size_setIfInBounds,h16A_size];exact hi),Array.getElem?_eq_none (by rw [h16A_size];exact hi)]
theorem f16_info:(Tryz.prog.info? 194).map (·.size)=some 16:=by kernel_rfl
def Can.fstTo (l:List UInt8)(n k:Nat):Nat:=if k < n then fst l k else 0
theorem Can.fstTo_one (l:List UInt8):h16A (fstTo l 1)=#[.int .u16 0,.int .u16 0,.int .u16 0,.int .u16 0,.int .u16 0,.int .u16 0,.int .u16 0,.int .u16 0,.int .u16 0,.int .u16 0,.int .u16 0,.int .u16 0,.int .u16 0,.int .u16 0,.int .u16 0,.int .u16 0]:=rfl
theorem Can.fstTo_all (l:List UInt8):h16A (fstTo l 16)=h16A (fst l):=by
 unfold h16A
 congr 1
theorem Can.fstTo_step (l:List UInt8){k:Nat}:(h16A (fstTo l k)).setIfInBounds k (.int .u16 (fst l k:Nat))=h16A (fstTo l (k+1)):=h16A_set _ _ _ _ fun j _=>by
 unfold fstTo
 by_cases h:j=k
 ·rw [if_pos h,if_pos (by omega),h]
 ·rw [if_neg h]
  by_cases h2:j < k
  ·rw [if_pos h2,if_pos (by omega)]
  ·rw [if_neg h2,if_neg (by omega)]
set_option maxHeartbeats 2000000 in
set_option maxRecDepth 100000 in
theorem cFirsts_any (l:List UInt8)(hr:right l=true)(w:World):Calls Tryz.prog 127 #[.agg (cntV (cnt l l.length))] w fun e w'=>e=.returned (.agg (h16A (fst l)))∧Ext w w':=by
 have hE1:=extNew w (.cells (cntV (cnt l l.length)) 186)
 have hW1:=Whole.new w 186 (cntV (cnt l l.length))
 have HA:=hide (show ∀ k,k < 16→(cntV (cnt l l.length))[k]?=some (.int .i64 ((cnt l l.length k:Nat):Int)) from fun k hk=>cntV_at _ hk)
 have HRoom:=hide (show ∀ k,1≤k→fst l k+cnt l l.length k≤32768 from fun k hk=>fst_room hr hk _ (Nat.le_refl _))
 have HNext:=hide (show ∀ k,1≤k→k < 15→fst l (k+1)=(fst l k+cnt l l.length k)*2 from fun k hk h15=>fst_next l hk h15)
 have H1:=hide (fst_one l)
 have HZ:=hide (fstTo_one l)
 have HS:=hide (show ∀ k,(h16A (fstTo l k)).setIfInBounds k (.int .u16 (fst l k:Nat))=h16A (fstTo l (k+1)) from fun k=>fstTo_step l)
 have HAll:=hide (fstTo_all l)
 have HSz:=hide (show ∀ k,(h16A (fstTo l k)).size=16 from fun k=>h16A_size _)
 have HSzA:=hide (h16A_size (fst l))
 have HOne:=hide (h16A_one (fst l))
 clear hr
 generalize cntV (cnt l l.length)=cs at *
 generalize cnt l l.length=f at *
 have hE2:=(hE1.alloc (.cells (h16A (fstTo l 1)) 194)).alloc (.cells (h16A (fstTo l 1)) 194)
 have hW2:=(hW1.alloc (.cells (h16A (fstTo l 1)) 194)).alloc (.cells (h16A (fstTo l 1)) 194)
 have hR2:=(Whole.new (w.alloc (.cells cs 186)) 194 (h16A (fstTo l 1))).alloc (.cells (h16A (fstTo l 1)) 194)
 have hF2:=Whole.new ((w.alloc (.cells cs 186)).alloc (.cells (h16A (fstTo l 1)) 194)) 194 (h16A (fstTo l 1))
 simp only [World.size_alloc] at hR2 hF2
 go_enter Tryz.func127,Tryz.ntmps127
 go_wp2
 rw [← HZ.out]
 obtain ⟨Z,hZ⟩:∃ Z,Z=h16A (fstTo l 1):=⟨_,rfl⟩
 have HZs:=hide (show Z.size=16 by rw [hZ];exact HSz.out 1)
 rw [← hZ] at hR2
 have HZe:=hide hZ
 clear hZ
 go_loopw [5,4] (fun x a wr=>∃ j s:Nat,j≤15∧x=.int .i64 ((j+1:Nat):Int)∧a=.int .i64 (s:Int)∧(j < 15→fst l (j+1)=s*2)∧s≤32768∧Whole wr w.heap.size 186 cs∧Whole wr (w.heap.size+1) 194 Z∧Whole wr (w.heap.size+1+1) 194 (h16A (fstTo l (j+1)))∧Ext w wr) (fun x _ _=>17-(intOf x).toNat)
 case atStart=>exact ⟨0,0,by omega,rfl,rfl,fun _=>H1.out,by omega,hW2,by rw [HZe.out] at hR2 ⊢;exact hR2,hF2,hE2⟩
 case round =>
  clear hE1 hW1 hE2 hW2 hR2 hF2
  obtain ⟨j,s,hj,rfl,rfl,hs,hsb,hW,hR,hF,hE⟩:=hrel
  by_cases hlt:j < 15
  ·have hjI:((j+1:Nat):Int)≤15:=by omega
   have hcs:=HA.out (j+1) (by omega)
   have hS:=HS.out (j+1)
   rw [hs hlt] at hS
   have hrm:=HRoom.out (j+1) (by omega)
   rw [hs hlt] at hrm
   have hnx:=HNext.out (j+1) (by omega)
   rw [hs hlt] at hnx
   have hsz:=HSz.out (j+1)
   generalize f (j+1)=y at *
   have HSh:=hide hS
   have HNx:=hide hnx
   clear hs hS hnx
   have hu16:IntKind.u16.wrap ((s:Int)*2)=((s*2:Nat):Int):=by simp [IntKind.wrap,IntKind.bits,IntKind.signed];omega
   have hb1:(Tryz.prog.info? 131).map (·.size)=some 1:=by kernel_rfl
   have hszl:j+1 < (h16A (fstTo l (j+1))).size:=by omega
   have HSzl:=hide hszl
   have HCs:=hide hcs
   clear hsz hszl hcs
   generalize h16A (fstTo l (j+1))=V at *
   generalize hV2:h16A (fstTo l (j+1+1))=V2 at *
   have HV2:=hide hV2
   clear hV2
   go_wp2_with (refine wpList_storeC rfl 131 (.tmp 15) (.tmp 14) rfl _ rfl rfl hF HSzl.out hb1 rfl rfl HSh.out ?_;intro w3 hF3 hG3;have hW3:=hW.grown hG3 (by omega);have hc3:=hW3.at (j+1) HCs.out)
   go_roundw
   case rel=>exact ⟨j+1,s*2+y,by omega,by go_num,by go_num,HNx.out,hrm,hW3,hR.grown hG3 (by omega),by rw [HV2.out];exact hF3,Below.grown hE hG3 hE.le (fun k hk=>by cases hk;omega)⟩
   case measure=>simp [intOf];omega
  ·obtain rfl:j=15:=by omega
   have hjI:¬ ((15+1:Nat):Int)≤15:=by omega
   rw [show 15+1=16 from rfl,HAll.out] at hF
   have hsz:=HSzA.out
   have hinf:(Tryz.prog.info? 194).map (·.size)=some (h16A (fst l)).size:=by rw [hsz];exact f16_info
   have hss:(h16A (fst l)).size=Z.size:=by rw [hsz,HZs.out]
   have hone:=HOne.out
   clear hs hW hsz
   obtain ⟨V,hV⟩:∃ V,V=h16A (fst l):=⟨_,rfl⟩
   rw [← hV] at hF hinf hss hone
   have HVV:=hide hV
   clear hV
   go_wp2_with (first
    | (refine wpList_load_row rfl 194 (.tmp 3) rfl _ rfl _ _ _ _ hF Tryz.underlying194 rfl hinf ?_)
    | (refine wpList_storeW rfl 194 (.tmp 2) (.tmp 21) rfl rfl rfl hR hss hinf hone ?_;intro w5 hW5 hG5 _))
   refine bodyPost_ret (results_cell_row rfl _ _ _ _ _ _ _ rfl hW5 Tryz.underlying194 rfl hinf) rfl ?_
   exact ⟨by rw [HVV.out],Below.grown hE hG5 hE.le (fun k hk=>by cases hk;omega)⟩
theorem Can.cntV_zero:cntV (fun _=>0)=#[.int .i64 0,.int .i64 0,.int .i64 0,.int .i64 0,.int .i64 0,.int .i64 0,.int .i64 0,.int .i64 0,.int .i64 0,.int .i64 0,.int .i64 0,.int .i64 0,.int .i64 0,.int .i64 0,.int .i64 0,.int .i64 0]:=rfl
theorem Can.cntV_set (f g:Nat→Nat)(k x:Nat)(h:∀ j,j < 16→g j=if j=k then x else f j):(cntV f).setIfInBounds k (.int .i64 (x:Int))=cntV g:=by
 apply Array.ext_getElem?
 intro i
 rcases Nat.lt_or_ge i 16 with hi | hi
 ·rw [cntV_at g hi,h i hi]
  by_cases e:k=i
  ·subst e
   rw [Array.getElem?_setIfInBounds_self_of_lt (by rw [cntV_size];exact hi),if_pos rfl]
  ·rw [Array.getElem?_setIfInBounds_ne e,cntV_at f hi,if_neg (by omega)]
 ·rw [Array.getElem?_eq_none (by rw [Array.size_setIfInBounds,cntV_size];exact hi),Array.getElem?_eq_none (by rw [cntV_size];exact hi)]
end
section
open Go.RowKit Len Can
def Can.outF (l:List UInt8):Nat→Nat:=if right l then cnt l l.length else fun _=>0
def Counted (w:World)(l:List UInt8)(e:Ending)(w':World):Prop:=e=.returned (.tuple #[.agg (cntV (outF l)),.int .i64 (checkE l)])∧Ext w w'
theorem Can.cnt_step (l:List UInt8)(i:Nat):(cntV (cnt l i)).setIfInBounds (lenAt l i) (.int .i64 ((cnt l i (lenAt l i)+1:Nat):Int))=cntV (cnt l (i+1)):=cntV_set _ _ _ _ fun j _=>by
 rw [cnt_succ]
 by_cases h:j=lenAt l i
 ·rw [if_pos h,if_pos h.symm,h]
 ·rw [if_neg h,if_neg (fun e=>h e.symm),Nat.add_zero]
theorem Can.cnt_none (l:List UInt8):cntV (cnt l 0)=cntV fun _=>0:=rfl
set_option maxHeartbeats 2000000 in
set_option maxRecDepth 100000 in
theorem countOut_any (A:Option Addr)(n c:Nat)(l:List UInt8)(w:World)(h:Bytes w w.heap.size A n l):Calls Tryz.prog 120 #[.slice A n c] w (Counted w l):=by
 have hl:=h.1
 subst hl
 have hR1:=Whole.new w 186 (cntV fun _=>0)
 have hE1:=extNew w (.cells (cntV fun _=>0) 186)
 have HNo:=hide (show right l=false→outF l=fun _=>0 from fun h=>by unfold outF;rw [h];rfl)
 have HNo7:=hide (show right l=false→checkE l=7 from check_wrong)
 have hinf:(Tryz.prog.info? 186).map (·.size)=some (cntV fun _=>0).size:=by rw [cntV_size];exact cnt_info
 by_cases hbig:(300:Int) < (l.length:Int)
 ·have HN:=hide (HNo.out (wrong_long (by omega)))
  have H7:=hide (HNo7.out (wrong_long (by omega)))
  go_enter Tryz.func120,Tryz.ntmps120
  go_wp2
  refine bodyPost_ret (results_row2 rfl _ rfl rfl (run_loadVar_row _ _ _ _ _ _ _ hR1 Tryz.underlying186 rfl hinf)) rfl ?_
  exact ⟨by rw [HN.out,H7.out];rfl,hE1⟩
 ·have hE2:=hE1.alloc (.cells (cntV fun _=>0) 186)
  have hR2:=hR1.alloc (.cells (cntV fun _=>0) 186)
  have hM2:=Whole.new (w.alloc (.cells (cntV fun _=>0) 186)) 186 (cntV fun _=>0)
  simp only [World.size_alloc] at hM2
  have HS:=hide (cnt_step l)
  have H0:=hide (cnt_none l)
  have HZ:=hide cntV_zero
  have HLe:=hide (show ∀ i k,cnt l i k≤i from fun i k=>cnt_le l k i)
  have HRt:=hide (show (∀ i,i < l.length→lenAt l i≤15)→rightF (cnt l l.length)=right l from right_of_counts (by omega))
  have HYes:=hide (show right l=true→outF l=cnt l l.length from fun h=>by unfold outF;rw [h];rfl)
  have HYes0:=hide (show right l=true→checkE l=0 from check_right)
  have HWr:=hide (show ∀ i,i < l.length→15 < lenAt l i→right l=false from fun i hi h=>wrong_high hi h)
  have HSz:=hide (show ∀ f,(cntV f).size=16 from cntV_size)
  have HOne:=hide (show ∀ f,(cntV f).all (·.oneCell')=true from cntV_one)
  have HAt:=hide (show ∀ f k,k < 16→(cntV f)[k]?=some (.int .i64 ((f k:Nat):Int)) from fun f k h=>cntV_at f h)
  go_enter Tryz.func120,Tryz.ntmps120
  go_wp2
  rw [← HZ.out]
  go_loopw [13] (fun x wr=>∃ i:Nat,i≤l.length∧x=.int .i64 (i:Int)∧(∀ q,q < i→lenAt l q≤15)∧Whole wr w.heap.size 186 (cntV fun _=>0)∧Whole wr (w.heap.size+1) 186 (cntV (cnt l i))∧Ext w wr) (fun x _=>l.length-(intOf x).toNat)
  case atStart=>exact ⟨0,by omega,rfl,fun q hq=>absurd hq (by omega),hR2,by rw [H0.out];exact hM2,hE2⟩
  case round =>
   clear hE1 hR1 hE2 hR2 hM2
   obtain ⟨i,hi,rfl,hall,hR,hM,hE⟩:=hrel
   have HAll:=hide hall
   clear hall
   by_cases hlt:i < l.length
   ·rcases (hE.bytes h).2 with h0 | ⟨b,o,rfl,hB,hc⟩
    ·omega
    have hk:=hc i hlt
    have hyl:=UInt8.toNat_lt (l.getD i 0)
    have hS:=HS.out i
    have hW:=HWr.out i hlt
    obtain ⟨y,hy⟩:∃ y,y=lenAt l i:=⟨_,rfl⟩
    have hk2:wr.cell? ⟨b,o+i,none⟩=some (.int .u8 (y:Int)):=by rw [hy];exact hk
    have hyl2:y < 256:=by rw [hy];exact hyl
    rw [← hy] at hS hW
    have HY:=hide hy
    have hil:(i:Int) < (l.length:Int):=by omega
    clear hc hy hk hyl
    by_cases h15:(15:Int) < (y:Int)
    ·have HN:=hide (HNo.out (hW (by omega)))
     have H7:=hide (HNo7.out (hW (by omega)))
     have hone:=HOne.out fun _=>0
     clear hS hW
     go_wp2_with (refine wpList_storeW rfl 186 (.tmp 2) (.tmp 19) rfl rfl (congrArg Value.agg HZ.out.symm) hR rfl hinf hone ?_;intro w5 hW5 hG5 _)
     refine bodyPost_ret (results_row2 rfl _ rfl rfl (run_loadVar_row _ _ _ _ _ _ _ hW5 Tryz.underlying186 rfl hinf)) rfl ?_
     exact ⟨by rw [HN.out,H7.out];rfl,Below.grown hE hG5 hE.le (fun k hk=>by cases hk;omega)⟩
    ·have HS2:=hide hS
     have hcy:=hM.at y (HAt.out _ y (by omega))
     have hle:=HLe.out i y
     have hb1:(Tryz.prog.info? 3).map (·.size)=some 1:=by kernel_rfl
     have hys:y < (cntV (cnt l i)).size:=by rw [HSz.out];omega
     have HYs:=hide hys
     clear hS hW hys
     obtain ⟨V,hV⟩:∃ V,V=cntV (cnt l i):=⟨_,rfl⟩
     rw [← hV] at hM HYs HS2
     obtain ⟨V2,hV2⟩:∃ V2,V2=cntV (cnt l (i+1)):=⟨_,rfl⟩
     rw [← hV2] at HS2
     have HV2:=hide hV2
     clear hV hV2
     generalize cnt l i y=m at *
     go_wp2_with (refine wpList_storeC rfl 3 (.tmp 24) (.tmp 23) rfl _ rfl rfl hM HYs.out hb1 rfl rfl HS2.out ?_;intro w3 hM3 hG3)
     go_roundw
     case rel=>exact ⟨i+1,by omega,by go_num,fun q hq=>(by
      by_cases hqi:q=i
      ·rw [hqi,← HY.out];omega
      ·exact HAll.out q (by omega)),hR.grown hG3 (by omega),by rw [← HV2.out];exact hM3,Below.grown hE hG3 hE.le (fun k hk=>by cases hk;omega)⟩
     case measure=>simp [intOf];omega
   ·obtain rfl:l.length=i:=by omega
    have hrt:=HRt.out HAll.out
    have C:=fun W=>cRight_any (cnt l l.length) (fun k=>Nat.le_trans (HLe.out _ k) (by omega)) W
    rw [hrt] at C
    have hsz:=HSz.out (cnt l l.length)
    have hinf2:(Tryz.prog.info? 186).map (·.size)=some (cntV (cnt l l.length)).size:=by rw [hsz];exact cnt_info
    have hss:(cntV (cnt l l.length)).size=(cntV fun _=>0).size:=by rw [hsz,HSz.out]
    have hone:=HOne.out (cnt l l.length)
    have hone0:=HOne.out fun _=>0
    clear hrt hsz
    generalize right l=r at *
    obtain ⟨V,hV⟩:∃ V,V=cntV (cnt l l.length):=⟨_,rfl⟩
    rw [← hV] at C hM hinf2 hss hone
    have HV:=hide hV
    clear hV
    go_wp2_with (refine wpList_load_row rfl 186 (.tmp 4) rfl _ rfl _ _ _ _ hM Tryz.underlying186 rfl hinf2 ?_)
    refine (C _).mono ?_
    rintro e w4 ⟨rfl,hE4⟩
    have hM4:=hM.ext hE4
    have hR4:=hR.ext hE4
    have hF4:=hE.trans hE4
    clear hM hR hE hE4 C
    cases r with
    | false =>
     have HN:=hide (HNo.out rfl)
     have H7:=hide (HNo7.out rfl)
     go_wp2_with (refine wpList_storeW rfl 186 (.tmp 2) (.tmp 29) rfl rfl (congrArg Value.agg HZ.out.symm) hR4 rfl hinf hone0 ?_;intro w5 hW5 hG5 _)
     refine bodyPost_ret (results_row2 rfl _ rfl rfl (run_loadVar_row _ _ _ _ _ _ _ hW5 Tryz.underlying186 rfl hinf)) rfl ?_
     exact ⟨by rw [HN.out,H7.out];rfl,Below.grown hF4 hG5 hF4.le (fun k hk=>by cases hk;omega)⟩
    | true =>
     have HN:=hide (HYes.out rfl)
     have H0':=hide (HYes0.out rfl)
     go_wp2_with (first
      | (refine wpList_load_row rfl 186 (.tmp 4) rfl _ rfl _ _ _ _ hM4 Tryz.underlying186 rfl hinf2 ?_)
      | (refine wpList_storeW rfl 186 (.tmp 2) (.tmp 30) rfl rfl rfl hR4 hss hinf2 hone ?_;intro w5 hW5 hG5 _))
     refine bodyPost_ret (results_row2 rfl _ rfl rfl (run_loadVar_row _ _ _ _ _ _ _ hW5 Tryz.underlying186 rfl hinf2)) rfl ?_
     exact ⟨by rw [HN.out,H0'.out,HV.out];rfl,Below.grown hF4 hG5 hF4.le (fun k hk=>by cases hk;omega)⟩
set_option maxHeartbeats 2000000 in
set_option maxRecDepth 100000 in
theorem check_any (A:Option Addr)(n c:Nat)(l:List UInt8)(w:World)(h:Bytes w w.heap.size A n l):Calls Tryz.prog 107 #[.slice A n c] w fun e w'=>e=.returned (.int .i64 (checkE l))∧Ext w w':=by
 have C:=countOut_any A n c l w h
 unfold Counted at C
 have hsz:=cntV_size (outF l)
 have hone:=cntV_one (outF l)
 have hinf:(Tryz.prog.info? 186).map (·.size)=some (cntV (outF l)).size:=by rw [hsz];exact cnt_info
 have hss:(cntV (outF l)).size=(cntV fun _=>0).size:=by rw [hsz,cntV_size]
 have HZ:=hide cntV_zero
 generalize cntV (outF l)=V at *
 generalize checkE l=ck at *
 go_enter Tryz.func107,Tryz.ntmps107
 go_wp2_with fail
 refine C.mono ?_
 rintro e w2 ⟨rfl,hE⟩
 have hM:=Whole.new w2 186 (cntV fun _=>0)
 have hE2:=hE.alloc (.cells (cntV fun _=>0) 186)
 rw [HZ.out] at hM hE2
 rw [HZ.out] at hss
 go_wp2_with (refine wpList_storeW rfl 186 (.tmp 3) (.tmp 8) rfl rfl rfl hM hss hinf hone ?_;intro w5 hW5 hG5 _)
 go_ret
 exact ⟨rfl,Below.grown hE2 hG5 hE2.le (fun k hk=>by cases hk;exact hE.le)⟩
end
section
open Go.RowKit Len Can
theorem wpList_makeH {ops:Array Oper}{rest:List Oper}{o:Oper}{a:Act}{Q:Exit→Act→World→Prop}{w:World}(hgd:o.guard=none)(x y:Operand)(ho:o.op=.makeSlice 93 x y){n:Nat}(hx:a.eval x=.int .i64 (n:Int))(hy:a.eval y=.int .i64 (n:Int))(hn:n≤1000)
  (h:∀ w',OwnH w' w.heap.size (.slice (some ⟨w.heap.size,0,none⟩) n n) (List.replicate n 0)→Ext w w'→wpList Tryz.prog ops Q rest (a.put o.dst (.slice (some ⟨w.heap.size,0,none⟩) n n)) w'):wpList Tryz.prog ops Q (o :: rest) a w:=by
 obtain ⟨i,hi,hz,hsz,hby⟩:=info_parts h16_info
 refine wpList_make_full w hgd x y 93 ho w.heap.size 131 i _ 1 Tryz.underlying93 hi hz hsz .i64 .i64 _ _ n hx hy rfl rfl (by rw [hby];omega) (by unfold maxLen;omega) (Nat.le_refl _) ?_
 intro w' h1 h2
 refine h w' ?_ (Below.grown (Ext.refl w) h2 (Nat.le_refl _) fun k hk=>by cases hk)
 unfold OwnH
 have e:(madeCells (Value.int .u16 0).cells (n*1)).toList=(List.replicate n (0:Nat)).map h16V:=by
  have:madeCells (Value.int .u16 0).cells n=((List.replicate n (0:Nat)).map h16V).toArray:=by
   apply Array.ext
   ·simp [size_madeCells]
   ·intro i h1 h2
    simp [madeCells,Value.cells,h16V,Nat.mod_one]
  rw [Nat.mul_one,this]
 rw [e] at h1
 simpa using h1
def Can.nextF (l:List UInt8)(s k:Nat):Nat:=if k=0 then 0 else fst l k+cnt l s k
theorem Can.next_none (l:List UInt8):h16A (fst l)=h16A (nextF l 0):=rfl
theorem Can.next_pass (l:List UInt8){s:Nat}(h:lenAt l s=0):h16A (nextF l s)=h16A (nextF l (s+1)):=by
 congr 1
 funext k
 unfold nextF
 by_cases h0:k=0
 ·rw [if_pos h0,if_pos h0]
 ·rw [if_neg h0,if_neg h0,cnt_succ,if_neg (by omega),Nat.add_zero]
theorem Can.next_step (l:List UInt8){s:Nat}(hs:s < l.length)(h:lenAt l s≠0):nextF l s (lenAt l s)=word l s∧(h16A (nextF l s)).setIfInBounds (lenAt l s) (.int .u16 ((word l s+1:Nat):Int))=h16A (nextF l (s+1)):=by
 have e:nextF l s (lenAt l s)=word l s:=by
  unfold nextF
  rw [if_neg h,word_fst l hs h]
 refine ⟨e,h16A_set _ _ _ _ fun j _=>?_⟩
 by_cases hj:j=lenAt l s
 ·rw [if_pos hj,← e,hj]
  unfold nextF
  rw [if_neg h,if_neg h,cnt_succ,if_pos rfl]
  omega
 ·rw [if_neg hj]
  unfold nextF
  by_cases h0:j=0
  ·rw [if_pos h0,if_pos h0]
  ·rw [if_neg h0,if_neg h0,cnt_succ,if_neg (fun e=>hj e.symm),Nat.add_zero]
set_option maxHeartbeats 2000000 in
set_option maxRecDepth 100000 in
theorem codes_any (A:Option Addr)(n c:Nat)(l:List UInt8)(w:World)(h:Bytes w w.heap.size A n l):Calls Tryz.prog 122 #[.slice A n c] w (TellsH w (codesE l)):=by
 have C:=countOut_any A n c l w h
 unfold Counted at C
 have hl:=h.1
 subst hl
 have HZ:=hide cntV_zero
 have hsz:=cntV_size (outF l)
 have hone:=cntV_one (outF l)
 have hinf:(Tryz.prog.info? 186).map (·.size)=some (cntV (outF l)).size:=by rw [hsz];exact cnt_info
 have hss:(cntV (outF l)).size=(cntV fun _=>0).size:=by rw [hsz,cntV_size]
 rw [HZ.out] at hss
 cases hr:right l with
 | false =>
  have HN:=hide (show codesE l=([],7) by unfold codesE;rw [hr];rfl)
  rw [check_wrong hr] at C
  clear hr h
  generalize cntV (outF l)=V at *
  go_enter Tryz.func122,Tryz.ntmps122
  go_wp2_with fail
  refine C.mono ?_
  rintro e w2 ⟨rfl,hE⟩
  have hM:=Whole.new w2 186 (cntV fun _=>0)
  have hE2:=hE.alloc (.cells (cntV fun _=>0) 186)
  rw [HZ.out] at hM hE2
  go_wp2_with (refine wpList_storeW rfl 186 (.tmp 4) (.tmp 13) rfl rfl rfl hM hss hinf hone ?_;intro w5 hW5 hG5 _)
  go_ret2
  rw [HN.out]
  exact ⟨_,rfl,OwnH.nil _ _,Below.grown hE2 hG5 hE2.le (fun k hk=>by cases hk;exact hE.le)⟩
 | true =>
  have HN:=hide (show codesE l=(codesL l,0) by unfold codesE;rw [hr];rfl)
  rw [check_right hr] at C
  obtain ⟨h300,h15,_⟩:=right_facts hr
  have HF:=fun W=>cFirsts_any l hr W
  have HO:outF l=cnt l l.length:=by unfold outF;rw [hr];rfl
  rw [← HO] at HF
  have HLt:=hide (show ∀ s,s < l.length→word l s < 32768 from fun s hs=>word_lt hr hs)
  have H15:=hide h15
  have HNone:=hide (codesTo_none l)
  have HAll:=hide (codesTo_all l)
  have HLen:=hide (codesTo_len l)
  have HSet:=hide (codesTo_set l)
  have HPass:=hide (show ∀ s,lenAt l s=0→codesTo l s=codesTo l (s+1) from fun s hs=>codesTo_pass l hs)
  have HNx0:=hide (next_none l)
  have HNxP:=hide (show ∀ s,lenAt l s=0→h16A (nextF l s)=h16A (nextF l (s+1)) from fun s hs=>next_pass l hs)
  have HNxS:=hide (show ∀ s,s < l.length→lenAt l s≠0→nextF l s (lenAt l s)=word l s∧(h16A (nextF l s)).setIfInBounds (lenAt l s) (.int .u16 ((word l s+1:Nat):Int))=h16A (nextF l (s+1)) from fun s hs h=>next_step l hs h)
  have HSzA:=hide (show ∀ f,(h16A f).size=16 from h16A_size)
  have HAtA:=hide (show ∀ f k,k < 16→(h16A f)[k]?=some (.int .u16 ((f k:Nat):Int)) from fun f k h=>h16A_at f h)
  have honeF:=h16A_one (fst l)
  have hinfF:(Tryz.prog.info? 194).map (·.size)=some (h16A (fst l)).size:=by rw [h16A_size];exact f16_info
  have hssF:(h16A (fst l)).size=(#[.int .u16 0,.int .u16 0,.int .u16 0,.int .u16 0,.int .u16 0,.int .u16 0,.int .u16 0,.int .u16 0,.int .u16 0,.int .u16 0,.int .u16 0,.int .u16 0,.int .u16 0,.int .u16 0,.int .u16 0,.int .u16 0]:Array Value).size:=by rw [h16A_size];rfl
  have hl300:l.length≤1000:=by omega
  clear hr h15 HO hsz
  generalize cntV (outF l)=V at *
  obtain ⟨F,hFe⟩:∃ F,F=h16A (fst l):=⟨_,rfl⟩
  rw [← hFe] at HF hinfF hssF honeF
  have HFe:=hide hFe
  clear hFe
  go_enter Tryz.func122,Tryz.ntmps122
  go_wp2_with fail
  refine C.mono ?_
  rintro e w2 ⟨rfl,hE⟩
  have hM:=Whole.new w2 186 (cntV fun _=>0)
  have hE2:=hE.alloc (.cells (cntV fun _=>0) 186)
  rw [HZ.out] at hM hE2
  have hle:=hE.le
  clear C hE
  go_wp2_with (first
   | (refine wpList_storeW rfl 186 (.tmp 4) (.tmp 13) rfl rfl rfl hM hss hinf hone ?_;intro w5 hW5 hG5 hS5;clear hS5)
   | (refine wpList_load_row rfl 186 (.tmp 4) rfl _ rfl _ _ _ _ hW5 Tryz.underlying186 rfl hinf ?_))
  have hF5:Ext w w5:=Below.grown hE2 hG5 hE2.le (fun k hk=>by cases hk;exact hle)
  clear hE2 hG5 hM
  refine (HF _).mono ?_
  rintro e w6 ⟨rfl,hE6⟩
  have hF6:=hF5.trans hE6
  have hM6:=Whole.new w6 194 #[.int .u16 0,.int .u16 0,.int .u16 0,.int .u16 0,.int .u16 0,.int .u16 0,.int .u16 0,.int .u16 0,.int .u16 0,.int .u16 0,.int .u16 0,.int .u16 0,.int .u16 0,.int .u16 0,.int .u16 0,.int .u16 0]
  have hF7:=hF6.alloc (.cells #[.int .u16 0,.int .u16 0,.int .u16 0,.int .u16 0,.int .u16 0,.int .u16 0,.int .u16 0,.int .u16 0,.int .u16 0,.int .u16 0,.int .u16 0,.int .u16 0,.int .u16 0,.int .u16 0,.int .u16 0,.int .u16 0] 194)
  have hle6:=hF6.le
  clear hF5 hE6 hF6 HF
  obtain ⟨g6,hg6⟩:∃ g,g=w6.heap.size:=⟨_,rfl⟩
  rw [← hg6] at hM6 hle6
  have Hg6:=hide hg6
  clear hg6
  go_wp2_with (first
   | (refine wpList_storeW rfl 194 (.tmp 6) (.tmp 19) rfl (by rw [Hg6.out];rfl) rfl hM6 hssF hinfF honeF ?_;intro w7 hW7 hG7 hS7;clear hS7)
   | (refine wpList_makeH (n:=l.length) rfl (.tmp 21) (.tmp 21) rfl rfl rfl hl300 ?_;intro w8 hO8 hE8))
  have hF7':Ext w w7:=Below.grown hF7 hG7 hF7.le (fun k hk=>by cases hk;exact hle6)
  have hF8:=hF7'.trans hE8
  clear hF7'
  have hW8:=hW7.ext hE8
  have hlt7:=hW7.lt
  have hle7:w.heap.size≤w7.heap.size:=by omega
  rw [HFe.out,HNx0.out] at hW8
  rw [← HNone.out] at hO8
  rw [← Hg6.out]
  generalize w7.heap.size=g7 at *
  have hg67:g6≠g7:=by omega
  clear hE8 hW7 hG7 hF7 hM6 hssF hinfF honeF hss hinf hone hW5 Hg6 HFe
  go_loopw [25] (fun x wr=>∃ s:Nat,s≤l.length∧x=.int .i64 (s:Int)∧Whole wr g6 194 (h16A (nextF l s))∧OwnH wr w.heap.size (.slice (some ⟨g7,0,none⟩) l.length l.length) (codesTo l s)∧Ext w wr) (fun x _=>l.length-(intOf x).toNat)
  case atStart=>exact ⟨0,by omega,rfl,hW8,hO8.mono hle7,hF8⟩
  case round =>
   clear hW8 hO8 hF8
   obtain ⟨s,hs,rfl,hW,hO,hE⟩:=hrel
   by_cases hlt:s < l.length
   ·rcases (hE.bytes h).2 with h0 | ⟨b,o,rfl,hB,hc⟩
    ·omega
    have hk:=hc s hlt
    have hy15:=H15.out s hlt
    have hP:=HPass.out s
    have hNP:=HNxP.out s
    have hNS:=HNxS.out s hlt
    have hx:=HLt.out s hlt
    obtain ⟨y,hy⟩:∃ y,y=lenAt l s:=⟨_,rfl⟩
    have hk2:wr.cell? ⟨b,o+s,none⟩=some (.int .u8 (y:Int)):=by rw [hy];exact hk
    rw [← hy] at hP hNP hNS hy15
    have hil:(s:Int) < (l.length:Int):=by omega
    clear hc hy hk
    by_cases y0:y=0
    ·have HP:=hide (hP y0)
     have HNP:=hide (hNP y0)
     clear hP hNP hNS
     subst y0
     go_wp2
     go_roundw
     case rel=>exact ⟨s+1,by omega,by go_num,by rw [← HNP.out];exact hW,by rw [← HP.out];exact hO,hE⟩
     case measure=>simp [intOf];omega
    ·obtain ⟨hn1,hn2⟩:=hNS y0
     have hSt:=HSet.out s
     have hcx:=hW.at y (HAtA.out _ y (by omega))
     rw [hn1] at hcx
     have hO':=hO
     have hlenO:=HLen.out s
     rw [← hlenO] at hO'
     obtain ⟨k1,k2⟩:=hO'.cell (i:=s) (by rw [hlenO];exact hlt)
     have hO2:=hO'.set s (word l s)
     rw [hSt,hlenO] at hO2
     have hW2:=hW.far (b:=g7) hg67 s (.int .u16 ((word l s:Nat):Int))
     have hcx2:=hW2.at y (HAtA.out _ y (by omega))
     rw [hn1] at hcx2
     have hsz:=HSzA.out (nextF l s)
     have hsy:y < (h16A (nextF l s)).size:=by rw [hsz];omega
     have HSy:=hide hsy
     have HN2:=hide hn2
     have HO2:=hide hO2
     have hb1:(Tryz.prog.info? 131).map (·.size)=some 1:=by kernel_rfl
     have hE2:=hE.setCell (g:=g7) (i:=s) hle7 (.int .u16 ((word l s:Nat):Int))
     have hgl:g7 < wr.heap.size:=(hO.lt g7 rfl).2
     have hy0:(0:Int) < (y:Int):=by omega
     clear hP hNP hNS hn1 hn2 hSt hO' hlenO hO2 hsz hsy hO
     generalize word l s=x at *
     generalize (codesTo l s).getD s 0=x0 at *
     obtain ⟨V1,hV1⟩:∃ V1,V1=h16A (nextF l s):=⟨_,rfl⟩
     rw [← hV1] at hW hW2 HSy HN2
     clear hV1
     obtain ⟨V2,hV2⟩:∃ V2,V2=h16A (nextF l (s+1)):=⟨_,rfl⟩
     rw [← hV2] at HN2
     have HV2:=hide hV2
     clear hV2
     go_wp2_with (refine wpList_storeC rfl 131 (.tmp 42) (.tmp 41) rfl _ rfl rfl hW2 HSy.out hb1 rfl rfl HN2.out ?_;intro w9 hW9 hG9)
     go_roundw
     case rel =>
      have hO9:=World.ownsRow.kept HO2.out hG9 (by simp [Value.ownBlock];omega)
      exact ⟨s+1,by omega,by go_num,by rw [← HV2.out];exact hW9,hO9,Below.grown hE2 hG9 hE2.le (fun k hk=>by cases hk;exact hle6)⟩
     case measure=>simp [intOf];omega
   ·obtain rfl:l.length=s:=by omega
    rw [HAll.out] at hO
    have HO:=hide hO
    clear hO
    go_wp2
    go_ret2
    rw [HN.out]
    exact ⟨_,rfl,HO.out,hE⟩
end
end Go.Proofs.YtaogpmombefmmaaGreatDoor
