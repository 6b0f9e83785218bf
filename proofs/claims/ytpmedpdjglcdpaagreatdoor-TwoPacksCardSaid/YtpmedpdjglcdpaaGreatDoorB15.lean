/- What was put is got: plain mathematics; slices of calls of the call's own. Lengths as bits, as values: what is written is read. Plain mathematics of chapter 8. Symbols by words, as values: what was put is got. Plain mathematics of chapter 9 -/
import Derived.Test.YtpmedpdjglcdpaaGreatDoorB02
import Derived.Test.YtpmedpdjglcdpaaGreatDoorB05
import Derived.Test.YtpmedpdjglcdpaaGreatDoorB06
import Derived.Test.YtpmedpdjglcdpaaGreatDoorB07
import Derived.Test.YtpmedpdjglcdpaaGreatDoorB08
import Derived.Test.YtpmedpdjglcdpaaGreatDoorB09
import Derived.Test.YtpmedpdjglcdpaaGreatDoorB10
import Derived.Test.YtpmedpdjglcdpaaGreatDoorB11
import Derived.Test.YtpmedpdjglcdpaaGreatDoorB12
import Derived.Test.YtpmedpdjglcdpaaGreatDoorB13
import Derived.Test.YtpmedpdjglcdpaaGreatDoorB14
import Derived.BigQuiet
import Derived.OwnWalk
import Derived.Laws.OwnMore
import Derived.Maps.AppendAt
import Derived.IntWalk
import Derived.Deep.QuietTactic
import Derived.Deep.RegionLaw
namespace Go.Proofs.YtpmedpdjglcdpaaGreatDoor
open Go.RowKit
namespace Bit
theorem Packs.room {l:List UInt8}{P E Q:List Bool}(h:Packs l (P++E++Q)):P.length+E.length≤8*l.length:=by
 have hl:=h.1
 simp only[List.length_append]at hl
 omega
end Bit
end Go.Proofs.YtpmedpdjglcdpaaGreatDoor
namespace Go.Proofs.YtpmedpdjglcdpaaGreatDoor.Can
open Len
def zrun:Nat→List UInt8→Nat
 | 0,_=>0
 | _+1,[]=>0
 | f+1,x::r=>if x=0 then zrun f r+1 else 0
theorem jt:∀ (f:Nat) (r:List UInt8),zrun f r≤f∧zrun f r≤r.length
 | 0,_=>by simp[zrun]
 | _+1,[]=>by simp[zrun]
 | f+1,x::r=>by
  have:=jt f r
  rw[zrun]
  split
  ·simp;omega
  ·simp
theorem Zr:∀ (f:Nat) (r:List UInt8),r.take (zrun f r)=List.replicate (zrun f r) 0
 | 0,_=>by simp[zrun]
 | _+1,[]=>by simp[zrun]
 | f+1,x::r=>by
  rw[zrun]
  split
  ·rename_i h
   rw[List.take_succ_cons,Zr f r,h,List.replicate_succ]
  ·simp
theorem Zs:∀ (f:Nat) (r:List UInt8),zrun f r<f→∀ y,(r.drop (zrun f r)).head?=some y→y≠0
 | 0,_,h=>by simp[zrun]at h
 | _+1,[],_=>by simp[zrun]
 | f+1,x::r,h=>by
  rw[zrun]at h ⊢
  split at h
  ·rename_i h0
   rw[if_pos h0,List.drop_succ_cons]
   exact Zs f r (by omega)
  ·rename_i h0
   rw[if_neg h0]
   intro y hy
   simp at hy
   rw[← hy]
   exact h0
def wbits:List UInt8→List Bool
 | []=>[]
 | x::r=>if x=0 then Bit.num 0 4++(Bit.num (zrun 63 r) 6++wbits (r.drop (zrun 63 r))) else Bit.num x.toNat 4++wbits r
termination_by l=>l.length
decreasing_by all_goals (simp;try omega)
theorem Zt:wbits []=[]:=by rw[wbits]
theorem jX {x:UInt8}(r:List UInt8)(h:x≠0):wbits (x::r)=Bit.num x.toNat 4++wbits r:=by rw[wbits,if_neg h]
theorem jY (r:List UInt8):wbits (0::r)=Bit.num 0 4++(Bit.num (zrun 63 r) 6++wbits (r.drop (zrun 63 r))):=by rw[wbits,if_pos rfl]
theorem yP:∀ l:List UInt8,(wbits l).length≤10*l.length
 | []=>by rw[Zt];simp
 | x::r=>by
  by_cases h:x=0
  ·subst h
   have:=yP (r.drop (zrun 63 r))
   rw[jY,List.length_append,List.length_append,Bit.num_length,Bit.num_length]
   rw[List.length_drop]at this
   simp only[List.length_cons]
   omega
  ·have:=yP r
   rw[jX r h,List.length_append,Bit.num_length]
   simp only[List.length_cons]
   omega
termination_by l=>l.length
decreasing_by all_goals (simp;try omega)
end Go.Proofs.YtpmedpdjglcdpaaGreatDoor.Can
namespace Go.Proofs.YtpmedpdjglcdpaaGreatDoor.Huf
open Len Can
section
variable {l:List UInt8}
theorem VK (hr:right l=true){s:Nat}(hs:s<l.length)(h0:zg l s≠0):word l s<2 ^ zg l s:=by
 obtain⟨_,h15,hk⟩:=zD hr
 have h1:=Zl l (zg l s) (s+1)
 rw[xu l (by omega) hs,if_pos rfl,← qt h0]at h1
 have h2:=h15 s hs
 have e:(2:Nat) ^ 15=2 ^ zg l s*2 ^ (15-zg l s):=by rw[← Nat.pow_add];congr 1;omega
 have h3:(word l s+1)*2 ^ (15-zg l s)≤2 ^ zg l s*2 ^ (15-zg l s):=by
  rw[← e,Nat.add_mul,Nat.one_mul]
  omega
 exact Nat.le_of_mul_le_mul_right h3 (Nat.pow_pos (by omega))
end
def fine (l:List UInt8)(s:Int):Bool:=decide (0≤s∧s<l.length∧zg l s.toNat≠0)
def XZ (l:List UInt8)(s:Int):List Bool:=Bit.num (word l s.toNat) (zg l s.toNat)
def X0 (l:List UInt8)(s:Int):Int:=if fine l s then 0 else 13
end Go.Proofs.YtpmedpdjglcdpaaGreatDoor.Huf
namespace Go.Proofs.YtpmedpdjglcdpaaGreatDoor.Huf
open Len Can
theorem jZ {often:List Nat}(h300:often.length≤300){q:Nat}(hq:q<often.length):zg (yr often 15) q=xr often 15 q :=
 qp hq (by omega) (by omega) (Nat.le_trans (vB _) (Nat.le_trans h300 (by decide)))
theorem j0 {often:List Nat}(h300:often.length≤300):right (yr often 15)=true:=by
 have hu:(zd often often.length).length≤2 ^ 15:=Nat.le_trans (vB _) (Nat.le_trans h300 (by decide))
 have hk:=QP h300 (show 1≤15 by omega) (Nat.le_refl 15) hu
 have hU:vD (yr often 15) (yr often 15).length=VH often often.length:=by
  unfold vD VH
  rw[ys]
  refine zK fun q hq=>?_
  rw[jZ h300 hq]
  by_cases h0:often.getD q 0=0
  ·rw[if_pos h0,if_pos (Zj h0 (by omega) hu)]
  ·have:=(jk hq h0 (L:=15) (by omega) hu).1
   rw[if_neg h0,if_neg (by omega)]
 refine decide_eq_true ⟨by rw[hk],?_⟩
 rw[hU,hk]
 by_cases h2:2≤VH often often.length
 ·rw[if_pos h2]
  exact .inr (.inr rfl)
 ·by_cases h1:VH often often.length=1
  ·refine .inr (.inl ⟨h1,?_⟩)
   have h1':(zd often often.length).length=1:=by rw[YM];exact h1
   have hs:=(x5 (often:=often) (j:=often.length) (i:=0) (by omega)).1
   unfold Qy
   rw[ys,zK (g:=fun q=>if q=sOf (zd often often.length) 0 then 1 else 0) (fun q hq=>by
    rw[jZ h300 hq,uQ h1']
    by_cases e:q=sOf (zd often often.length) 0
    ·rw[if_pos e];rfl
    ·rw[if_neg e];rfl),Yq,if_pos hs]
  ·exact .inl (by omega)
end Go.Proofs.YtpmedpdjglcdpaaGreatDoor.Huf
namespace Go.Proofs.YtpmedpdjglcdpaaGreatDoor.Tok
open Len Can Huf Lz
def ZV (q:Nat)(t:TokV):Bool:=decide ((zC t).1.sym=(q:Int))
def Xb (q:Nat)(t:TokV):Bool:=decide (t.len≠0∧(zC t).1.dist=(q:Int))
def yG (L:List TokV):List Nat:=(List.range 265).map fun q=>L.countP (ZV q)+if q=256 then 1 else 0
def zN (L:List TokV):List Nat:=(List.range 12).map fun q=>L.countP (Xb q)
theorem yj (L:List TokV):(yG L).length=265:=by simp[yG]
theorem zL (L:List TokV):(zN L).length=12:=by simp[zN]
theorem Xc (L:List TokV){q:Nat}(hq:q<265):(yG L).getD q 0=L.countP (ZV q)+if q=256 then 1 else 0:=by
 simp[yG,List.getD_eq_getElem?_getD,hq]
theorem QV (L:List TokV){q:Nat}(hq:q<12):(zN L).getD q 0=L.countP (Xb q):=by
 simp[zN,List.getD_eq_getElem?_getD,hq]
def zF (L:List TokV):List UInt8:=yr (yG L) 15
def zR (L:List TokV):List UInt8:=yr (zN L) 15
theorem j5 {often:List Nat}(h:often.length≤300):yV often 15=(yr often 15,0):=by
 have hu:=vB (often:=often) often.length
 unfold yV
 rw[if_neg (by omega),if_neg (by rw[show (15:Int).toNat=15 from rfl];omega)]
 rfl
theorem j6 {often:List Nat}(h:often.length≤300){q:Nat}(hq:q<often.length)(h0:often.getD q 0≠0):fine (yr often 15) (q:Int)=true:=by
 have hu:=vB (often:=often) often.length
 have h1:=(jk (often:=often) (L:=15) hq h0 (by omega) (by omega)).1
 refine decide_eq_true ⟨by omega,by rw[ys];omega,?_⟩
 rw[Int.toNat_natCast,jZ h hq]
 omega
theorem zG (L:List TokV):right (zF L)=true:=j0 (by rw[yj];omega)
theorem yJ (L:List TokV):right (zR L)=true:=j0 (by rw[zL];omega)
theorem vf (L:List TokV):(zF L).length=265:=by unfold zF;rw[ys,yj]
theorem vg (L:List TokV):(zR L).length=12:=by unfold zR;rw[ys,zL]
theorem JG (L:List TokV):fine (zF L) 256=true:=j6 (often:=yG L) (q:=256) (by rw[yj];omega) (by rw[yj];omega) (by
 rw[Xc L (by omega),if_pos rfl]
 omega)
theorem Zu {t:TokV}(h:may t=true):0≤(zC t).1.sym∧(zC t).1.sym<265∧(zC t).1.sym≠256∧(t.len≠0→0≤(zC t).1.dist∧(zC t).1.dist<12):=by
 by_cases h0:t.len=0
 ·rw[xq h h0]
  have:=UInt8.toNat_lt t.lit
  dsimp only
  exact⟨by omega,by omega,by omega,fun e=>absurd h0 e⟩
 ·obtain⟨k,x,c,y,hk,hx,hc,hy,e1,e2,e3⟩:=xQ h h0
  rw[e3]
  dsimp only
  exact⟨by omega,by omega,by omega,fun _=>⟨by omega,by omega⟩⟩
theorem JH {L:List TokV}{t:TokV}(ht:t∈L)(h:may t=true):fine (zF L) (zC t).1.sym=true:=by
 obtain⟨h1,h2,_,_⟩:=Zu h
 obtain⟨q,hq⟩:=Int.eq_ofNat_of_zero_le h1
 rw[hq]
 refine j6 (often:=yG L) (by rw[yj];omega) (by rw[yj];omega) ?_
 rw[Xc L (by omega)]
 have:0<L.countP (ZV q):=List.countP_pos_iff.2 ⟨t,ht,decide_eq_true hq⟩
 omega
theorem VL {L:List TokV}{t:TokV}(ht:t∈L)(h:may t=true)(h0:t.len≠0):fine (zR L) (zC t).1.dist=true:=by
 obtain⟨h1,h2⟩:=(Zu h).2.2.2 h0
 obtain⟨q,hq⟩:=Int.eq_ofNat_of_zero_le h1
 rw[hq]
 refine j6 (often:=zN L) (by rw[zL];omega) (by rw[zL];omega) ?_
 rw[QV L (by omega)]
 have:0<L.countP (Xb q):=List.countP_pos_iff.2 ⟨t,ht,decide_eq_true ⟨h0,hq⟩⟩
 omega
def acR (y:List UInt8)(p:PcV):List Bool:=Bit.num p.len.toNat (p.sym-257).toNat++(XZ y p.dist++Bit.num p.far.toNat p.dist.toNat)
def X3 (x y:List UInt8)(t:TokV):List Bool:=XZ x (zC t).1.sym++if t.len=0 then [] else acR y (zC t).1
def zV (x y:List UInt8)(L:List TokV):List Bool:=L.flatMap (X3 x y)
def vO (L:List TokV):List Bool:=wbits (zF L)++(wbits (zR L)++(zV (zF L) (zR L) L++XZ (zF L) 256))
def writeE (L:List TokV):List Bool×Int:=if 32768<L.length then ([],6) else if L.all may then (vO L,0) else ([],7)
end Go.Proofs.YtpmedpdjglcdpaaGreatDoor.Tok
namespace Go.Proofs.YtpmedpdjglcdpaaGreatDoor
theorem Bit.val_testBit (f:Nat→Bool):∀ n j,j<n→(Bit.val f n).testBit (n-1-j)=f j
 | 0,j,h=>by omega
 | n+1,j,h=>by
  have hb:(f n).toNat≤1:=by cases f n<;>simp
  rw[Bit.val]
  by_cases e:j=n
  ·subst e
   rw[show j+1-1-j=0 by omega,Nat.testBit_zero]
   cases hf:f j<;>simp<;>omega
  ·rw[show n+1-1-j=(n-1-j)+1 by omega,Nat.testBit_succ,show (2*Bit.val f n+(f n).toNat) / 2=Bit.val f n by omega]
   exact Bit.val_testBit f n j (by omega)
def Bit.pack (B:List Bool):List UInt8:=(List.range ((B.length+7) / 8)).map fun i=>UInt8.ofNat (Bit.val (fun j=>B.getD (8*i+j) false) 8)
theorem Bit.packs_pack (B:List Bool):Bit.Packs (Bit.pack B) B:=by
 refine⟨by simp[Bit.pack],fun i hi=>?_⟩
 have hl:(Bit.pack B).length=(B.length+7) / 8:=by simp[Bit.pack]
 unfold Bit.at_
 have hd:i / 8<(B.length+7) / 8:=by omega
 have e:(Bit.pack B).getD (i / 8) 0=UInt8.ofNat (Bit.val (fun j=>B.getD (8*(i / 8)+j) false) 8):=by
  unfold Bit.pack
  rw[List.getD_eq_getElem?_getD,List.getElem?_map,List.getElem?_range hd]
  rfl
 have hv:=Bit.val_lt (fun j=>B.getD (8*(i / 8)+j) false) 8
 rw[e,UInt8.toNat_ofNat',Nat.mod_eq_of_lt hv,show 7-i % 8=8-1-i % 8 by omega,Bit.val_testBit _ 8 (i % 8) (by omega)]
 congr 1
 omega
theorem Bit.pack_len (B:List Bool):(Bit.pack B).length=(B.length+7) / 8:=by simp[Bit.pack]
theorem Bit.Packs.is {l:List UInt8}{B:List Bool}(h:Bit.Packs l B):l=Bit.pack B:=h.uniq (Bit.packs_pack B)
end Go.Proofs.YtpmedpdjglcdpaaGreatDoor
namespace Go.Proofs.YtpmedpdjglcdpaaGreatDoor
section
theorem ju {α:Type}(f:Nat→List α)(n:Nat):(List.range (n+1)).flatMap f=(List.range n).flatMap f++f n:=by
 rw[List.range_succ,List.flatMap_append];simp
end
namespace Ef
open Num Bit
def wid (q:Nat):Nat:=q.log2
theorem ad7 {q:Nat}(h:0<q):2 ^ wid q≤q∧q<2 ^ (wid q+1):=⟨Nat.log2_self_le (by omega),Nat.lt_log2_self⟩
def row (bound:Int)(ids:List Int):Bool:=decide (∀ i,i<ids.length→0≤ids.getD i 0∧ids.getD i 0<bound∧(0<i→ids.getD (i-1) 0<ids.getD i 0))
def hi (w:Nat)(ids:List Int)(i:Nat):Nat:=(ids.getD i 0).toNat / 2 ^ w
def was (w:Nat)(ids:List Int)(i:Nat):Nat:=if i=0 then 0 else hi w ids (i-1)
def y7 (w:Nat)(ids:List Int)(k:Nat):List Bool:=(List.range k).flatMap fun i=>num ((ids.getD i 0).toNat % 2 ^ w) w
def y8 (w:Nat)(ids:List Int)(k:Nat):List Bool:=(List.range k).flatMap fun i=>unBits (hi w ids i-was w ids i)
def xW (w:Nat)(ids:List Int):List Bool:=y7 w ids ids.length++y8 w ids ids.length
def widE (bound:Int)(n:Nat):Nat:=wid (bound.toNat / n)
def rowB (bound:Int)(ids:List Int):List UInt8:=Num.enc ids.length++if ids.length=0 then [] else pack (xW (widE bound ids.length) ids)
def writeE (bound:Int)(ids:List Int):List UInt8×Int:=if (0≤bound∧bound≤20000)∧row bound ids=true then (rowB bound ids,0) else ([],13)
section
variable {bound:Int}{ids:List Int}{w:Nat}
theorem uv (h:row bound ids=true){i:Nat}(hi:i<ids.length):0≤ids.getD i 0∧ids.getD i 0<bound∧(0<i→ids.getD (i-1) 0<ids.getD i 0):=of_decide_eq_true h i hi
theorem acS (h:row bound ids=true):∀ {i:Nat},i<ids.length→(i:Int)≤ids.getD i 0
 | 0,hi=>(uv h hi).1
 | i+1,hi=>by
  have h1:=acS h (i:=i) (by omega)
  have h2:=(uv h hi).2.2 (by omega)
  rw[Nat.add_sub_cancel]at h2
  omega
theorem ui (h:row bound ids=true):ids.length=0∨(ids.length:Int)≤bound:=by
 rcases Nat.eq_zero_or_pos ids.length with e|e
 ·exact .inl e
 ·have h1:=acS h (i:=ids.length-1) (by omega)
  have h2:=(uv h (i:=ids.length-1) (by omega)).2.1
  omega
theorem vV (w:Nat)(ids:List Int):∀ k,(y7 w ids k).length=k*w
 | 0=>by simp[y7]
 | k+1=>by
  have:=vV w ids k
  unfold y7 at this ⊢
  rw[ju,List.length_append,this,num_length,Nat.succ_mul]
theorem QW (h:row bound ids=true){i:Nat}(hi':i<ids.length):was w ids i≤hi w ids i:=by
 unfold was
 split
 ·omega
 ·have h1:=(uv h hi').2.2 (by omega)
  exact Nat.div_le_div_right (by omega)
theorem vu (h:row bound ids=true):∀ k,k≤ids.length→(y8 w ids k).length=k+was w ids k
 | 0,_=>by simp[y8,was]
 | k+1,hk=>by
  have:=vu h k (by omega)
  have h2:=QW (w:=w) h (i:=k) (by omega)
  unfold y8 at this ⊢
  rw[ju,List.length_append,this]
  have e:was w ids (k+1)=hi w ids k:=by unfold was;rw[if_neg (by omega),Nat.add_sub_cancel]
  have e2:∀ n,(unBits n).length=n+1:=fun n=>by simp[unBits]
  rw[e2,e]
  omega
end
end Ef
end Go.Proofs.YtpmedpdjglcdpaaGreatDoor
namespace Go.Proofs.YtpmedpdjglcdpaaGreatDoor
namespace Ef
open Num Bit
section
variable {bound:Int}{ids:List Int}{w:Nat}{l:List UInt8}
theorem widE_le {bound:Int}{n:Nat}(hb:bound≤20000):widE bound n≤14:=by
 unfold widE wid
 have h1:bound.toNat / n≤20000:=Nat.le_trans (Nat.div_le_self _ _) (by omega)
 rcases Nat.eq_zero_or_pos (bound.toNat / n) with e|e
 ·rw[e];simp
 ·have:=(Nat.log2_lt (by omega)).2 (show bound.toNat / n<2 ^ 15 by omega)
  omega
theorem Zv (L:List Int)(x:Int){i:Nat}(h:i<L.length):(L++[x]).getD i 0=L.getD i 0:=by
 rw[List.getD_eq_getElem?_getD,List.getD_eq_getElem?_getD,List.getElem?_append_left h]
theorem Zw (L:List Int)(x:Int):(L++[x]).getD L.length 0=x:=by
 rw[List.getD_eq_getElem?_getD,List.getElem?_append_right (Nat.le_refl _),Nat.sub_self];rfl
theorem short (h:(writeE bound ids).2=0)(hn:0<ids.length)(hn2:ids.length≤2000):8*(writeE bound ids).1.length≤ids.length*(widE bound ids.length+3)+31:=by
 unfold writeE at h ⊢
 split at h
 rotate_left
 ·simp at h
 rename_i hc
 rw[if_pos hc]
 dsimp only
 obtain⟨⟨h0,h1⟩,hr⟩:=hc
 have hlen:=ui hr
 obtain⟨n,en⟩:∃ n,n=ids.length:=⟨_,rfl⟩
 have hq:0<bound.toNat / ids.length:=Nat.div_pos (by omega) hn
 have hw2:=(ad7 hq).2
 have ew:wid (bound.toNat / ids.length)=widE bound ids.length:=rfl
 rw[ew]at hw2
 obtain⟨w,hw⟩:∃ w,w=widE bound ids.length:=⟨_,rfl⟩
 unfold rowB
 rw[← hw]at hw2 ⊢
 rw[if_neg (by omega),List.length_append,pack_len]
 unfold xW
 rw[List.length_append,vV,vu hr _ (Nat.le_refl _)]
 have hlast:=(uv hr (i:=ids.length-1) (by omega)).2.1
 have hb2:bound.toNat<ids.length*2 ^ (w+1):=by
  have:=Nat.lt_mul_of_div_lt hw2 hn
  rwa [Nat.mul_comm]at this
 have hwas:was w ids ids.length<2*ids.length:=by
  unfold was hi
  rw[if_neg (by omega)]
  refine Nat.div_lt_of_lt_mul ?_
  have e:2 ^ w*(2*ids.length)=ids.length*2 ^ (w+1):=by rw[Nat.pow_succ,Nat.mul_comm ids.length,Nat.mul_assoc]
  rw[e]
  omega
 have he:(enc ids.length).length≤3:=by
  unfold Num.enc
  by_cases e1:ids.length<128
  ·rw[encF_small e1];simp
  ·rw[encF_big e1]
   by_cases e2:ids.length / 128<128
   ·rw[encF_small e2];simp
   ·omega
 have e3:ids.length*(w+3)=ids.length*w+ids.length*3:=Nat.mul_add _ _ _
 rw[e3]
 omega
end
end Ef
end Go.Proofs.YtpmedpdjglcdpaaGreatDoor
namespace Go.Proofs.YtpmedpdjglcdpaaGreatDoor
structure Ix where
 terms:List (List UInt8)
 lists:List (List Int)
deriving DecidableEq
namespace Pst
open Wrd
def zl (r:Rc):List (List UInt8):=xh r.text r.src
def yU (out:List (List UInt8))(l:List Rc):List (List UInt8):=l.foldl (fun out r=>(zl r).foldl zM out) out
def gather (l:List Rc):List (List UInt8):=yU [] l
def vv (s:List UInt8):Nat→List Rc→List Int
 | _,[]=>[]
 | k,r::t=>if s∈zl r then (k:Int)::vv s (k+1) t else vv s (k+1) t
def y9 (l:List Rc)(s:List UInt8):List Int:=vv s 0 l
def buildE (l:List Rc):Ix:=⟨gather l,(gather l).map (y9 l)⟩
def zT (bound:Int)(l:List Int):Bool:=decide (l≠[]) && Ef.row bound l
def mayE (bound:Int)(x:Ix):Bool:=decide (0≤bound∧bound≤20000∧x.terms.length=x.lists.length) && (Dic.mayD x.terms && x.lists.all (zT bound))
def bytesE (size bound:Int)(x:Ix):List UInt8×Int :=
 if size<1∨64<size∨mayE bound x=false then ([],13) else (Dic.dictB size.toNat x.terms++x.lists.flatMap (Ef.rowB bound),0)
theorem vP:∀ (l:List Rc) (out:List (List UInt8)),Rising out→Rising (yU out l)∧∀ z,z∈yU out l↔z∈out∨∃ r,r∈l∧z∈zl r
 | [],out,h=>⟨h,fun z=>by simp[yU]⟩
 | r::t,out,h=>by
  obtain⟨h1,h2⟩:=xi (zl r) out h
  obtain⟨h3,h4⟩:=vP t _ h1
  refine⟨h3,fun z=>?_⟩
  have:=h4 z
  rw[h2 z]at this
  show z∈yU ((zl r).foldl zM out) t↔_
  rw[this,or_assoc]
  simp
theorem jG (l:List Rc):Rising (gather l):=(vP l [] List.Pairwise.nil).1
theorem uw {l:List Rc}{z:List UInt8}:z∈gather l↔∃ r,r∈l∧z∈zl r:=by
 have:=(vP l [] List.Pairwise.nil).2 z
 unfold gather
 simpa using this
theorem xS:∀ (l out:List (List UInt8)),(l.foldl zM out).length≤out.length+l.length
 | [],out=>by simp
 | s::t,out=>by
  have h1:=xS t (zM out s)
  have h2:=YD s out
  simp only[List.foldl_cons,List.length_cons]
  omega
theorem jv (r:Rc):(zl r).length≤r.src.length+r.text.length:=by
 have h1:=xS ((zv r.src).map fun w=>64::w) ((zv r.text).foldl zM [])
 have h2:=xS (zv r.text) []
 have h3:=xm r.text
 have h4:=xm r.src
 unfold zl xh
 rw[List.length_map]at h1
 simp only[List.length_nil]at h2
 omega
theorem ZW:∀ (l:List Rc) (out:List (List UInt8)),(yU out l).length+16*l.length≤out.length+Rcs.weightE l
 | [],out=>by simp[yU,Rcs.weightE]
 | r::t,out=>by
  have h1:=ZW t ((zl r).foldl zM out)
  have h2:=xS (zl r) out
  have h3:=jv r
  have e:Rcs.weightE (r::t)=16+r.src.length+r.text.length+Rcs.weightE t:=by unfold Rcs.weightE;simp
  have e2:yU out (r::t)=yU ((zl r).foldl zM out) t:=rfl
  rw[e,e2,List.length_cons]
  omega
theorem j7 (l:List Rc):(gather l).length≤Rcs.weightE l:=by
 have:=ZW l []
 simp only[List.length_nil]at this
 unfold gather
 omega
theorem term_size {l:List Rc}{z:List UInt8}(h:z∈gather l):1≤z.length∧z.length≤25:=by
 obtain⟨r,-,hz⟩:=uw.1 h
 rcases Vq.1 hz with hw | ⟨w,hw,rfl⟩
 ·have:=(jP hw).1;omega
 ·have:=(jP hw).1;simp;omega
theorem uX {s:List UInt8}:∀ {l:List Rc} {k:Nat} {z:Int},z∈vv s k l↔∃ j:Nat,j<l.length∧z=((k+j:Nat):Int)∧s∈zl (l.getD j default)
 | [],k,z=>by simp[vv]
 | r::t,k,z=>by
  have ih:=@uX s t (k+1) z
  have key:(∃ j:Nat,j<(r::t).length∧z=((k+j:Nat):Int)∧s∈zl ((r::t).getD j default))↔(z=(k:Int)∧s∈zl r)∨∃ j:Nat,j<t.length∧z=((k+1+j:Nat):Int)∧s∈zl (t.getD j default):=by
   constructor
   ·rintro⟨j,h1,h2,h3⟩
    match j,h1,h2,h3 with
    | 0,_,h2,h3=>exact .inl ⟨by simpa using h2,by simpa using h3⟩
    | j+1,h1,h2,h3=>exact .inr ⟨j,by simpa using h1,by omega,by simpa using h3⟩
   ·rintro (⟨h1,h2⟩ | ⟨j,h1,h2,h3⟩)
    ·exact⟨0,by simp,by simpa using h1,by simpa using h2⟩
    ·exact⟨j+1,by simpa using h1,by omega,by simpa using h3⟩
  rw[key,← ih,vv]
  split<;>rename_i hs
  ·simp[hs]
  ·simp[hs]
theorem Zx {s:List UInt8}:∀ (l:List Rc) (k:Nat),(vv s k l).Pairwise (· < ·)
 | [],_=>List.Pairwise.nil
 | r::t,k=>by
  rw[vv]
  split
  ·refine List.Pairwise.cons (fun z hz=>?_) (Zx t (k+1))
   obtain⟨j,-,rfl,-⟩:=uX.1 hz
   omega
  ·exact Zx t (k+1)
theorem adK {l:List Rc}{s:List UInt8}{i:Nat}(hi:i<l.length):(i:Int)∈y9 l s↔s∈zl (l.getD i default):=by
 unfold y9
 rw[uX]
 constructor
 ·rintro⟨j,h1,h2,h3⟩
  obtain rfl:i=j:=by omega
  exact h3
 ·intro h
  exact⟨i,hi,by omega,h⟩
theorem aaK {l:List Rc}{s:List UInt8}:y9 l s=[]↔¬ s∈gather l:=by
 constructor
 ·intro h hs
  obtain⟨r,hr,hz⟩:=uw.1 hs
  obtain⟨i,hi,rfl⟩:=List.getElem_of_mem hr
  have:=(adK (s:=s) hi).2 (by rw[List.getD_eq_getElem?_getD,List.getElem?_eq_getElem hi];exact hz)
  rw[h]at this
  simp at this
 ·intro h
  cases he:y9 l s with
  | nil=>rfl
  | cons z t =>
   have hz:z∈y9 l s:=by rw[he];simp
   obtain⟨j,h1,-,h3⟩:=uX.1 hz
   exact absurd (uw.2 ⟨l.getD j default,by rw[List.getD_eq_getElem?_getD,List.getElem?_eq_getElem h1];exact List.getElem_mem _,h3⟩) h
theorem Zy (s:List UInt8)(r:Rc):∀ (l:List Rc) (k:Nat),vv s k (l++[r])=vv s k l++if s∈zl r then [((k+l.length:Nat):Int)] else []
 | [],k=>by simp[vv]
 | a::t,k=>by
  have:=Zy s r t (k+1)
  rw[List.cons_append,vv,vv,this,List.length_cons,show k+1+t.length=k+(t.length+1) by omega]
  split<;>simp
theorem acT (l:List Rc)(r:Rc)(s:List UInt8):y9 (l++[r]) s=y9 l s++if s∈zl r then [(l.length:Int)] else []:=by
 have:=Zy s r l 0
 rw[Nat.zero_add]at this
 exact this
theorem ad8 {bound:Int}{l:List Int}(h:l.Pairwise (· < ·))(hb:∀ z,z∈l→0≤z∧z<bound):Ef.row bound l=true:=by
 unfold Ef.row
 refine decide_eq_true fun i hi=>?_
 have e:∀ j (hj:j<l.length),l.getD j 0=l[j]:=fun j hj=>by rw[List.getD_eq_getElem?_getD,List.getElem?_eq_getElem hj];rfl
 have h1:=hb _ (List.getElem_mem hi)
 rw[e i hi]
 refine⟨h1.1,h1.2,fun h0=>?_⟩
 rw[e (i-1) (by omega)]
 exact List.pairwise_iff_getElem.1 h (i-1) i (by omega) hi (by omega)
theorem adL (l:List Rc)(s:List UInt8):Ef.row (l.length:Int) (y9 l s)=true:=ad8 (Zx l 0) fun z hz=>by
 obtain⟨j,h1,rfl,-⟩:=uX.1 hz
 omega
theorem build_may {l:List Rc}(hl:l.length≤20000)(hw:Rcs.weightE l≤1048576):mayE (l.length:Int) (buildE l)=true:=by
 have h1:=j7 l
 unfold mayE buildE
 rw[Bool.and_eq_true,Bool.and_eq_true]
 refine⟨decide_eq_true ⟨by omega,by omega,by simp⟩,Dic.may_of (by show (gather l).length≤_;omega) (fun s hs=>term_size hs) (jG l),?_⟩
 rw[List.all_eq_true]
 intro ids hi
 obtain⟨s,hs,rfl⟩:=List.mem_map.1 hi
 unfold zT
 rw[Bool.and_eq_true]
 exact⟨decide_eq_true fun e=>aaK.1 e hs,adL l s⟩
end Pst
end Go.Proofs.YtpmedpdjglcdpaaGreatDoor
namespace Go.Proofs.YtpmedpdjglcdpaaGreatDoor
open Go.ChangeShapes Go.WideShapes Go.ChangeAt Go.WideMaps Go.WideElems Go.RowKit
structure IxV where
 a1:Option Addr
 n1:Nat
 c1:Nat
 a2:Option Addr
 n2:Nat
 c2:Nat
 x:Ix
def IxV.lies (m:IxV)(W:World):Prop:=(m.n1≤m.c1∧m.c1≤maxLen∧TextsAt W W.heap.size m.a1 m.n1 m.x.terms)∧m.n2≤m.c2∧m.c2≤maxLen∧ILists W W.heap.size m.a2 m.n2 m.x.lists
theorem IxV.lies.later {m:IxV}{W W':World}(h:m.lies W)(hE:Ext W W'):m.lies W':=⟨⟨h.1.1,h.1.2.1,h.1.2.2.later hE⟩,h.2.1,h.2.2.1,h.2.2.2.ext hE⟩
end Go.Proofs.YtpmedpdjglcdpaaGreatDoor
namespace Go.Proofs.YtpmedpdjglcdpaaGreatDoor
namespace Pst
theorem may_facts {bound:Int}{x:Ix}(h:mayE bound x=true):(0≤bound∧bound≤20000)∧x.terms.length=x.lists.length∧Dic.mayD x.terms=true∧∀ l,l∈x.lists→zT bound l=true:=by
 unfold mayE at h
 rw[Bool.and_eq_true,Bool.and_eq_true]at h
 have h1:=of_decide_eq_true h.1
 exact⟨⟨h1.1,h1.2.1⟩,h1.2.2,h.2.1,List.all_eq_true.1 h.2.2⟩
theorem may_of {bound:Int}{x:Ix}(h:0≤bound∧bound≤20000)(h2:x.terms.length=x.lists.length)(h3:Dic.mayD x.terms=true)(h4:∀ l,l∈x.lists→zT bound l=true):mayE bound x=true:=by
 unfold mayE
 rw[Bool.and_eq_true,Bool.and_eq_true]
 exact⟨decide_eq_true ⟨h.1,h.2,h2⟩,h3,List.all_eq_true.2 h4⟩
end Pst
end Go.Proofs.YtpmedpdjglcdpaaGreatDoor
namespace Go.Proofs.YtpmedpdjglcdpaaGreatDoor
open Go.RowKit Num Ef
theorem Ef.wid_is {q j:Nat}(h:j=0∨2 ^ j≤q)(h2:q<2 ^ (j+1)):wid q=j:=by
 unfold wid
 rcases Nat.eq_zero_or_pos q with e|e
 ·subst e
  rcases h with h|h
  ·subst h;rfl
  ·have:=Nat.pow_pos (n:=j) (show 0<2 by omega);omega
 ·refine (Nat.log2_eq_iff (by omega)).2 ⟨?_,h2⟩
  rcases h with h|h
  ·subst h;rw[Nat.pow_zero];omega
  ·exact h
set_option maxHeartbeats 1000000 in
set_option maxRecDepth 100000 in
theorem qO (A:Option Addr)(n c:Nat)(L:List Int)(bound:Int)(w:World)(h:IntsAt w w.heap.size A n L)(hn:n≤1000000) :
  Calls Tryz.prog 89 #[.int .i64 bound,.slice A n c] w fun e w'=>e=.returned (.bool (row bound L))∧Ext w w':=by
 have hl:=h.1
 have HA:=hide h
 have HYes:=hide (show (∀ i,i<n→0≤L.getD i 0∧L.getD i 0<bound∧(0<i→L.getD (i-1) 0<L.getD i 0))→row bound L=true from fun h=>decide_eq_true (by rw[hl];exact h))
 have HNo:=hide (show ∀ i,i<n→¬ (0≤L.getD i 0∧L.getD i 0<bound∧(0<i→L.getD (i-1) 0<L.getD i 0))→row bound L=false from fun i hi h=>decide_eq_false fun e=>h (e i (by omega)))
 generalize row bound L=res at *
 clear h hl
 go_enter Tryz.func89,Tryz.ntmps89
 go_wp2
 go_loopw [5] (fun x wr=>∃ i:Nat,i≤n∧x=.int .i64 (i:Int)∧(∀ j,j<i→0≤L.getD j 0∧L.getD j 0<bound∧(0<j→L.getD (j-1) 0<L.getD j 0))∧Qt w wr) (fun x _=>n-(intOf x).toNat)
 case atStart=>exact⟨0,by omega,rfl,fun j hj=>absurd hj (by omega),Qt.refl _⟩
 case round =>
  obtain⟨i,hi,rfl,hall,hQ⟩:=hrel
  have HAll:=hide hall
  clear hall
  by_cases hlt:i<n
  ·have hiI:(i:Int)<(n:Int):=by omega
   rcases (HA.out.later hQ.ext).2 with hn0 | ⟨b1,o1,rfl,_,hc1⟩
   ·omega
   have e1:=hc1 i hlt
   have HNi:=hide (HNo.out i hlt)
   have HNext:=hide (show (0≤L.getD i 0∧L.getD i 0<bound∧(0<i→L.getD (i-1) 0<L.getD i 0))→∀ j,j<i+1→0≤L.getD j 0∧L.getD j 0<bound∧(0<j→L.getD (j-1) 0<L.getD j 0) from fun h j hj=>by
    by_cases e:j=i
    ·rw[e];exact h
    ·exact HAll.out j (by omega))
   rcases Nat.eq_zero_or_pos i with hi0|hi0
   ·obtain⟨y,hy⟩:∃ y,y=L.getD i 0:=⟨_,rfl⟩
    rw[← hy]at e1 HNi
    have HY:=hide hy
    have hd0:decide ((0:Int)<(i:Int))=false:=decide_eq_false (by omega)
    have hdn:decide (0<i)=false:=decide_eq_false (by omega)
    have HI0:=hide hi0
    clear hc1 hy hi0
    by_cases g1:y<0
    ·have hd1:decide (y<0)=true:=decide_eq_true g1
     have HR:=hide (HNi.out fun h=>by omega)
     clear HNext HNi
     go_wp2_with fail
     go_quiet (fail)
     go_wp2
     go_ret
     exact⟨zf HR.out.symm,(hQ.drewN _).ext⟩
    have hd1:decide (y<0)=false:=decide_eq_false g1
    by_cases g2:y<bound
    ·have hg2:¬ bound≤y:=by omega
     have hd2:decide (bound≤y)=false:=decide_eq_false hg2
     have hNx:=hide (HNext.out (by rw[← HY.out];exact⟨by omega,g2,fun h=>absurd h (by have:=HI0.out;omega)⟩))
     clear HNext HNi
     go_wp2_with fail
     go_quiet (fail)
     go_wp2
     go_roundw
     case rel=>exact⟨i+1,by omega,by go_num,hNx.out,hQ.drewN _⟩
     case measure=>simp[intOf];omega
    ·have hg2:bound≤y:=by omega
     have hd2:decide (bound≤y)=true:=decide_eq_true hg2
     have HR:=hide (HNi.out fun h=>g2 h.2.1)
     clear HNext HNi
     go_wp2_with fail
     go_quiet (fail)
     go_wp2
     go_ret
     exact⟨zf HR.out.symm,(hQ.drewN _).ext⟩
   ·obtain⟨k,rfl⟩:∃ k,i=k+1:=⟨i-1,by omega⟩
    have e2:=hc1 k (by omega)
    rw[Nat.add_sub_cancel]at HNi HNext
    obtain⟨y,hy⟩:∃ y,y=L.getD (k+1) 0:=⟨_,rfl⟩
    obtain⟨z,hz⟩:∃ z,z=L.getD k 0:=⟨_,rfl⟩
    rw[← hy]at e1 HNi HNext
    rw[← hz]at e2 HNi HNext
    have hk:((k+1:Nat):Int)-1=(k:Int):=by omega
    have hk0:(0:Int)<((k+1:Nat):Int):=by omega
    have hd0:decide ((0:Int)<((k+1:Nat):Int))=true:=decide_eq_true hk0
    clear hc1 hy hz
    by_cases g1:y<0
    ·have hd1:decide (y<0)=true:=decide_eq_true g1
     have HR:=hide (HNi.out fun h=>by omega)
     clear HNext HNi
     go_wp2_with fail
     go_quiet (fail)
     go_wp2
     go_ret
     exact⟨zf HR.out.symm,(hQ.drewN _).ext⟩
    have hd1:decide (y<0)=false:=decide_eq_false g1
    by_cases g2:y<bound
    ·have hg2:¬ bound≤y:=by omega
     have hd2:decide (bound≤y)=false:=decide_eq_false hg2
     by_cases g3:z<y
     ·have hg3:¬ y≤z:=by omega
      have hd3:decide (y≤z)=false:=decide_eq_false hg3
      have hNx:=hide (HNext.out ⟨by omega,g2,fun _=>g3⟩)
      clear HNext HNi
      go_wp2_with fail
      go_quiet (fail)
      go_wp2
      go_roundw
      case rel=>exact⟨k+1+1,by omega,by go_num,hNx.out,hQ.drewN _⟩
      case measure=>simp[intOf];omega
     ·have hg3:y≤z:=by omega
      have hd3:decide (y≤z)=true:=decide_eq_true hg3
      have HR:=hide (HNi.out fun h=>g3 (h.2.2 (by omega)))
      clear HNext HNi
      go_wp2_with fail
      go_quiet (fail)
      go_wp2
      go_ret
      exact⟨zf HR.out.symm,(hQ.drewN _).ext⟩
    ·have hg2:bound≤y:=by omega
     have hd2:decide (bound≤y)=true:=decide_eq_true hg2
     have HR:=hide (HNi.out fun h=>g2 h.2.1)
     clear HNext HNi
     go_wp2_with fail
     go_quiet (fail)
     go_wp2
     go_ret
     exact⟨zf HR.out.symm,(hQ.drewN _).ext⟩
  ·obtain rfl:n=i:=by omega
   have HN:=hide (HYes.out HAll.out)
   go_wp2
   go_ret
   exact⟨zf HN.out.symm,hQ.ext⟩
def aeh (q:Nat)(e:Ending):Prop:=∃ p:Nat,p=2 ^ wid q∧e=.returned (.tuple #[.int .i64 (wid q:Int),.int .i64 (p:Int)])
set_option maxHeartbeats 1000000 in
set_option maxRecDepth 100000 in
theorem UC (q:Nat)(w:World)(hq:q≤20000):Calls Tryz.prog 92 #[.int .i64 (q:Int)] w fun e w'=>aeh q e∧w'=w:=by
 go_enter Tryz.func92,Tryz.ntmps92
 go_wp2
 go_loopw [4,5] (fun x y wr=>∃ j:Nat,x=.int .i64 (j:Int)∧y=.int .i64 ((2 ^ j:Nat):Int)∧(j=0∨2 ^ j≤q)∧j≤20∧wr=w) (fun x _ _=>20-(intOf x).toNat)
 case atStart=>exact⟨0,rfl,rfl,.inl rfl,by omega,rfl⟩
 case round =>
  obtain⟨j,rfl,rfl,hj,hj2,rfl⟩:=hrel
  obtain⟨p,hp⟩:∃ p,p=2 ^ j:=⟨_,rfl⟩
  have hp1:0<p:=by rw[hp];exact Nat.pow_pos (by omega)
  have hps:2 ^ (j+1)=2*p:=by rw[Nat.pow_succ,hp];omega
  have hpq:p≤20000:=by
   rcases hj with h|h
   ·subst h;rw[hp];simp
   ·omega
  rw[← hp]at hj ⊢
  by_cases hlt:2*p≤q
  ·have hI:2*(p:Int)≤(q:Int):=by omega
   have hj15:j<20:=by
    refine Decidable.byContradiction fun h=>?_
    have:2 ^ 20≤2 ^ j:=Nat.pow_le_pow_right (by omega) (by omega)
    omega
   have HP:=hide hp
   have HPS:=hide hps
   clear hp hps
   go_wp2
   go_roundw
   case rel=>exact⟨j+1,by go_num,(by rw[HPS.out];go_num),.inr (by rw[HPS.out];exact hlt),by omega,trivial⟩
   case measure=>simp[intOf];omega
  ·have hI:¬ 2*(p:Int)≤(q:Int):=by omega
   have HW:=hide (wid_is (q:=q) (j:=j) (by rw[← hp];exact hj) (by omega))
   have HP:=hide hp
   clear hp hps
   go_wp2
   go_ret2
   exact⟨⟨p,by rw[HW.out];exact HP.out,by rw[HW.out];rfl⟩,rfl⟩
end Go.Proofs.YtpmedpdjglcdpaaGreatDoor
namespace Go.Proofs.YtpmedpdjglcdpaaGreatDoor
open Go.RowKit Pst
set_option maxHeartbeats 1000000 in
set_option maxRecDepth 10000 in
theorem UD (bound:Int)(m:IxV)(w:World)(h:m.lies w)(hn:m.n1≤1000000)(hs:∀ s,s∈m.x.terms→s.length≤1000000)(hls:∀ l,l∈m.x.lists→l.length≤1000000):Calls Tryz.prog 62 #[.int .i64 bound,.agg #[.slice m.a1 m.n1 m.c1,.slice m.a2 m.n2 m.c2]] w fun e w'=>e=.returned (.bool (mayE bound m.x))∧Ext w w':=by
 obtain⟨a1,n1,c1,a2,n2,c2,x⟩:=m
 obtain⟨⟨-,-,hT⟩,-,-,hL⟩:=h
 dsimp only at hT hL hn hs hls ⊢
 have hl1:=hT.1
 have hl2:=hL.1
 have HN1:=hide (show (bound<0∨20000<bound∨n1≠n2)→mayE bound x=false from fun e=>by unfold mayE;rw[decide_eq_false (by omega)];rfl)
 have HN2:=hide (show Dic.mayD x.terms=false→mayE bound x=false from fun e=>by unfold mayE;rw[e];simp)
 have HN3:=hide (show ∀ i,i<n2→zT bound (x.lists.getD i [])=false→mayE bound x=false from fun i hi e=>by
  cases hm:mayE bound x with
  | false=>rfl
  | true =>
   have h1:=(may_facts hm).2.2.2 (x.lists.getD i []) (by rw[List.getD_eq_getElem?_getD,List.getElem?_eq_getElem (by omega)];exact List.getElem_mem _)
   rw[e]at h1
   cases h1)
 have HYes:=hide (show 0≤bound→bound≤20000→n1=n2→Dic.mayD x.terms=true→(∀ i,i<n2→zT bound (x.lists.getD i [])=true)→mayE bound x=true from fun e1 e2 e3 e4 e5=>may_of ⟨e1,e2⟩ (by omega) e4 fun l hl=>by
  obtain⟨i,hi,rfl⟩:=List.getElem_of_mem hl
  have:=e5 i (by omega)
  rw[List.getD_eq_getElem?_getD,List.getElem?_eq_getElem hi]at this
  exact this)
 have HLs:=hide (show ∀ i,i<n2→(x.lists.getD i []).length≤1000000 from fun i hi=>hls _ (by rw[List.getD_eq_getElem?_getD,List.getElem?_eq_getElem (by omega)];exact List.getElem_mem _))
 obtain⟨w1,hw1⟩:∃ w1,w1=w.alloc (.cells #[.slice a1 n1 c1,.slice a2 n2 c2] 69):=⟨_,rfl⟩
 have HE1:=hide (show Ext w w1 by rw[hw1];exact zb w _)
 have HW:=hide (show Whole w1 w.heap.size 69 #[.slice a1 n1 c1,.slice a2 n2 c2] by rw[hw1];exact Whole.new w _ _)
 have HL:=hide (hL.ext HE1.out)
 have CM:=qG a1 n1 c1 x.terms w1 (hT.later HE1.out) (by omega) hs
 generalize mayE bound x=res at *
 obtain⟨U,hUe⟩:∃ U,U=x.lists:=⟨_,rfl⟩
 obtain⟨dd,hd⟩:∃ d,d=Dic.mayD x.terms:=⟨_,rfl⟩
 rw[← hUe]at HL HN3 HYes HLs
 rw[← hd]at HN2 HYes CM
 clear hT hL hl1 hl2 hUe hd hs hls
 by_cases g1:bound<0
 ·have HR:=hide (HN1.out (.inl g1))
  clear hw1 CM
  go_enter Tryz.func62,Tryz.ntmps62
  go_wp2
  go_ret
  exact⟨zf HR.out.symm,zb w _⟩
 by_cases g2:20000<bound
 ·have HR:=hide (HN1.out (.inr (.inl g2)))
  clear hw1 CM
  go_enter Tryz.func62,Tryz.ntmps62
  go_wp2
  go_ret
  exact⟨zf HR.out.symm,zb w _⟩
 by_cases g3:n1≠n2
 ·have HR:=hide (HN1.out (.inr (.inr g3)))
  have gb:((n1:Int) != (n2:Int))=true:=by simp;omega
  clear hw1 CM
  go_enter Tryz.func62,Tryz.ntmps62
  go_wp2
  go_ret
  exact⟨zf HR.out.symm,zb w _⟩
 obtain rfl:n1=n2:=by omega
 clear g3
 have gb:((n1:Int) != (n1:Int))=false:=by simp
 cases dd with
 | false =>
  have HR:=hide (HN2.out rfl)
  go_enter Tryz.func62,Tryz.ntmps62
  go_wp2_with fail
  rw[← hw1]
  clear hw1
  refine CM.mono ?_
  rintro e w2 ⟨rfl,hQ2⟩
  have HE2:=hide (HE1.out.trans hQ2.ext)
  clear CM hQ2
  go_wp2
  go_ret
  exact⟨zf HR.out.symm,HE2.out⟩
 | true =>
  have HYe:=hide (HYes.out (by omega) (by omega) rfl rfl)
  clear HN1 HN2 HYes
  go_enter Tryz.func62,Tryz.ntmps62
  go_wp2_with fail
  rw[← hw1]
  clear hw1
  refine CM.mono ?_
  rintro e w2 ⟨rfl,hQ2⟩
  have HE2:=hide hQ2.ext
  clear CM hQ2
  go_wp2
  go_loopw [5] (fun y wr=>∃ i:Nat,i≤n1∧y=.int .i64 (i:Int)∧(∀ j,j<i→zT bound (U.getD j [])=true)∧Ext w1 wr) (fun y _=>n1-(intOf y).toNat)
  case atStart=>exact⟨0,by omega,rfl,fun j hj=>absurd hj (by omega),HE2.out⟩
  case round =>
   obtain⟨i,hi,rfl,hall,hE⟩:=hrel
   have HAll:=hide hall
   have HE:=hide hE
   have d1:=(HW.out.ext HE.out).at 1 (u:=.slice a2 n1 c2) rfl
   clear hall hE HE2
   by_cases hlt:i<n1
   ·have hiI:(i:Int)<(n1:Int):=by omega
    obtain⟨b1,o1,a3,c3,rfl,e1,_,_,q1⟩:=(HL.out.ext HE.out).at hlt
    have C:=qO a3 _ c3 _ bound wr q1 (HLs.out i hlt)
    have HNi:=hide (HN3.out i hlt)
    obtain⟨l,hl⟩:∃ l,l=U.getD i []:=⟨_,rfl⟩
    rw[← hl]at e1 C HNi
    have HLe:=hide hl
    have HOk:=hide (show zT bound l=(decide (l≠[]) && Ef.row bound l) from rfl)
    obtain⟨k,hk⟩:∃ k,k=l.length:=⟨_,rfl⟩
    have HNe:=hide (show l=[]↔k=0 by rw[hk,List.length_eq_zero_iff])
    rw[← hk]at e1 C
    clear hl q1 hk
    by_cases gk:k=0
    ·subst gk
     have HR:=hide (HNi.out (by rw[HOk.out,HNe.out.2 rfl];rfl))
     clear HNi C
     go_wp2
     go_ret
     exact⟨zf HR.out.symm,HE1.out.trans HE.out⟩
    ·have gkb:((k:Int)==0)=false:=by simp;omega
     have HNe2:=hide (show decide (l≠[])=true from decide_eq_true fun e=>gk (HNe.out.1 e))
     cases hr:Ef.row bound l with
     | false =>
      rw[hr]at C
      have HR:=hide (HNi.out (by rw[HOk.out,hr,Bool.and_false]))
      clear HNi hr gk
      go_wp2_with fail
      refine C.mono ?_
      rintro e w3 ⟨rfl,hE3⟩
      clear C
      go_wp2
      go_ret
      exact⟨zf HR.out.symm,HE1.out.trans (HE.out.trans hE3)⟩
     | true =>
      rw[hr]at C
      have HR:=hide (show zT bound l=true by rw[HOk.out,hr,HNe2.out];rfl)
      clear HNi hr gk
      go_wp2_with fail
      refine C.mono ?_
      rintro e w3 ⟨rfl,hE3⟩
      clear C
      go_wp2
      go_roundw
      case rel=>exact⟨i+1,by omega,by go_num,fun j hj=>(by
       by_cases e:j=i
       ·rw[e,← HLe.out];exact HR.out
       ·exact HAll.out j (by omega)),HE.out.trans hE3⟩
      case measure=>simp[intOf];omega
   ·have hiI:¬ (i:Int)<(n1:Int):=by omega
    obtain rfl:n1=i:=by omega
    have HN:=hide (HYe.out HAll.out)
    go_wp2
    go_ret
    exact⟨zf HN.out.symm,HE1.out.trans HE.out⟩
end Go.Proofs.YtpmedpdjglcdpaaGreatDoor
namespace Go.Proofs.YtpmedpdjglcdpaaGreatDoor
open Go.RowKit Num Ef
theorem Ef.put_num {x k:Nat}(hk:k≤64)(h:x<2 ^ k):Bit.putBits x (k:Int)=Bit.num x k:=by
 have:Bit.fits x (k:Int)=true:=decide_eq_true ⟨by omega,by omega,by rw[Int.toNat_natCast];exact h⟩
 unfold Bit.putBits
 rw[if_pos this,Int.toNat_natCast]
theorem Ef.un_num {k:Nat}(hk:k≤100000):Bit.unaryBits (k:Int)=Bit.unBits k:=by
 have:Bit.runs (k:Int)=true:=decide_eq_true ⟨by omega,by omega⟩
 unfold Bit.unaryBits
 rw[if_pos this,Int.toNat_natCast]
theorem Ef.lowTo_succ (w:Nat)(ids:List Int)(k:Nat):y7 w ids (k+1)=y7 w ids k++Bit.num ((ids.getD k 0).toNat % 2 ^ w) w:=ju _ _
theorem Ef.highTo_succ (w:Nat)(ids:List Int)(k:Nat):y8 w ids (k+1)=y8 w ids k++Bit.unBits (hi w ids k-was w ids k):=ju _ _
theorem Ef.was_succ (w:Nat)(ids:List Int)(k:Nat):was w ids (k+1)=(ids.getD k 0).toNat / 2 ^ w:=by
 unfold was hi
 rw[if_neg (by omega),Nat.add_sub_cancel]
set_option maxHeartbeats 2000000 in
set_option maxRecDepth 100000 in
theorem Xd (A:Option Addr)(n c:Nat)(ids:List Int)(bound:Int)(w:World)(h:IntsAt w w.heap.size A n ids)(hn:n≤100000) :
  Calls Tryz.prog 64 #[.int .i64 bound,.slice A n c] w (zB w (writeE bound ids).1 (writeE bound ids).2):=by
 have CM:=qO A n c ids bound w h (by omega)
 have hl:=h.1
 subst hl
 by_cases h0:bound<0
 ·have HN:=hide (show writeE bound ids=([],13) by unfold writeE;rw[if_neg (by omega)])
  have hd:decide (bound<0)=true:=decide_eq_true h0
  rw[HN.out]
  clear CM HN h
  go_enter Tryz.func64,Tryz.ntmps64
  go_wp2
  go_ret2
  exact⟨_,rfl,OwnB.nil _ _,Ext.refl _⟩
 by_cases h1:20000<bound
 ·have HN:=hide (show writeE bound ids=([],13) by unfold writeE;rw[if_neg (by omega)])
  rw[HN.out]
  clear CM HN h
  go_enter Tryz.func64,Tryz.ntmps64
  go_wp2
  go_ret2
  exact⟨_,rfl,OwnB.nil _ _,Ext.refl _⟩
 cases hr:row bound ids with
 | false =>
  have HN:=hide (show writeE bound ids=([],13) by unfold writeE;rw[hr,if_neg (by simp)])
  rw[HN.out]
  rw[hr]at CM
  clear HN h hr
  go_enter Tryz.func64,Tryz.ntmps64
  go_wp2_with fail
  refine CM.mono ?_
  rintro e w1 ⟨rfl,hE1⟩
  go_wp2
  go_ret2
  exact⟨_,rfl,OwnB.nil _ _,hE1⟩
 | true =>
  have HN:=hide (show writeE bound ids=(rowB bound ids,0) by unfold writeE;rw[if_pos ⟨⟨by omega,by omega⟩,hr⟩])
  have HR:=hide hr
  rw[HN.out]
  rw[hr]at CM
  have HA:=hide h
  clear HN h hr
  by_cases hz:ids.length=0
  ·have HB:=hide (show rowB bound ids=Num.enc 0 by unfold rowB;rw[if_pos hz,List.append_nil,hz])
   rw[HB.out]
   rw[hz]at CM ⊢
   clear HB HA HR hz
   go_enter Tryz.func64,Tryz.ntmps64
   go_wp2_with fail
   refine CM.mono ?_
   rintro e w1 ⟨rfl,hE1⟩
   have C2:=zx 0 w1 (by omega)
   clear CM
   go_wp2_with fail
   refine C2.mono ?_
   rintro e w2 ⟨v2,rfl,hV2,hE2⟩
   clear C2
   go_wp2
   go_ret2
   exact⟨_,rfl,hV2.mono hE1.le,hE1.trans hE2⟩
  ·have hzb:((ids.length:Int)==0)=false:=by rw[beq_eq_false_iff_ne];omega
   obtain⟨bd,rfl⟩:=Int.eq_ofNat_of_zero_le (show 0≤bound by omega)
   obtain⟨q,hq⟩:∃ q,q=bd / ids.length:=⟨_,rfl⟩
   have hqI:(bd:Int).tdiv (ids.length:Int)=(q:Int):=by rw[hq,Int.tdiv_eq_ediv_of_nonneg (by omega)];rfl
   have hq2:q≤20000:=by rw[hq];exact Nat.le_trans (Nat.div_le_self _ _) (by omega)
   have hwd:wid q=widE (bd:Int) ids.length:=by unfold widE;rw[hq,Int.toNat_natCast]
   have HB:=hide (show rowB (bd:Int) ids=Num.enc ids.length++Bit.pack (xW (wid q) ids) by unfold rowB;rw[if_neg hz,hwd])
   have hw14:wid q≤14:=by rw[hwd];exact widE_le (by omega)
   rw[HB.out]
   clear HB hwd
   have HQ:=hide hq
   clear hq
   generalize hnn:ids.length=n at *
   have HL:=hide hnn
   clear hnn
   go_enter Tryz.func64,Tryz.ntmps64
   go_wp2_with fail
   refine CM.mono ?_
   rintro e w1 ⟨rfl,hE1⟩
   have C2:=zx n w1 (by omega)
   clear CM
   go_wp2_with fail
   refine C2.mono ?_
   rintro e w2 ⟨v2,rfl,hV2,hE2⟩
   have hle1:=hE1.le
   have hV2:=hV2.mono hle1
   have hE2:=hE1.trans hE2
   clear C2 hE1 hle1
   have C3:=UC q w2 hq2
   go_wp2_with fail
   refine C3.mono ?_
   rintro e w3 ⟨⟨p,hp,rfl⟩,rfl⟩
   have hp1:0<p:=by rw[hp];exact Nat.pow_pos (by omega)
   have HP:=hide hp
   clear C3 hp
   generalize wid q=k at *
   go_wp2_with fail
   have hEw:=zb w3 (.cells #[.slice none 0 0] 121)
   have hR0:=RefW.new w3
   have hV3:=hV2.ext hEw
   have hE3:=hE2.trans hEw
   obtain⟨g,hg⟩:∃ g,g=w3.heap.size:=⟨_,rfl⟩
   have hgl:w.heap.size≤g:=hg ▸ hE2.le
   have hV2g:∀ x,v2.ownBlock=some x→x<g:=fun x hx=>hg ▸ (hV2.lt x hx).2
   rw[← hg]at hR0 ⊢
   generalize w3.alloc (.cells #[.slice none 0 0] 121)=wa at *
   have HAll:=hide (show ∀ W,Mod wa W g none→OwnB W w.heap.size v2 (Num.enc n)∧Ext w W∧IntsAt W w.heap.size A n ids from fun W hM=>by
    have hE:Ext w W:=Below.trans hE3 (hM.below (B:=w.heap.size) hE3.le hgl (fun k hk=>by cases hk))
    refine⟨hM.own hV3 (fun e=>by have:=hV2g g e;omega) ?_,hE,HA.out.below hE (Nat.le_refl _)⟩
    cases hv:v2.ownBlock with
    | none=>exact .inl rfl
    | some x=>exact .inr (by simp))
   have HRow:=hide (show ∀ i,i<n→∃ y:Nat,ids.getD i 0=(y:Int)∧y<bd∧was k ids i≤y / p∧hi k ids i=y / p from fun i hi=>by
    have h1:=uv HR.out (i:=i) (by rw[HL.out];exact hi)
    refine⟨(ids.getD i 0).toNat,by omega,by omega,?_,?_⟩
    ·have h2:=QW (w:=k) HR.out (i:=i) (by rw[HL.out];exact hi)
     unfold Ef.hi at h2
     rw[HP.out]
     exact h2
    ·unfold Ef.hi
     rw[HP.out])
   have hlow:∀ i,i≤n→(y7 k ids i).length≤1400000:=fun i hi=>by
    rw[vV]
    exact Nat.le_trans (Nat.mul_le_mul (show i≤100000 by omega) hw14) (by omega)
   have HLow:=hide hlow
   have HHigh:=hide (show ∀ i,i≤n→(y8 k ids i).length=i+was k ids i from fun i hi=>vu HR.out i (by rw[HL.out];exact hi))
   clear hEw hV2 hV3 hE2 hE3 hg hV2g hlow hqI hzb
   go_loopw [10] (fun x wr=>∃ (i:Nat) (ob:Option Nat),i≤n∧x=.int .i64 (i:Int)∧RefW wr g g ob ((y7 k ids i).map yX)∧NewOb wa none ob∧Mod wa wr g none) (fun x _=>n-(intOf x).toNat)
   case atStart=>exact⟨0,none,by omega,rfl,by simpa[y7] using hR0,.inl rfl,Mod.refl _ _ _⟩
   case round =>
    clear hR0
    obtain⟨i,ob,hi,rfl,hR,hN,hM⟩:=hrel
    by_cases hlt:i<n
    ·have hiI:(i:Int)<(n:Int):=by omega
     obtain⟨_,hEw,hA⟩:=HAll.out wr hM
     rcases hA.2 with h9 | ⟨b1,o1,rfl,_,hc1⟩
     ·omega
     have e1:=hc1 i hlt
     obtain⟨y,hy,hyb,_,_⟩:=HRow.out i hlt
     rw[hy]at e1
     obtain⟨m,hm⟩:∃ m,m=y % p:=⟨_,rfl⟩
     have hmI:(y:Int).tmod (p:Int)=(m:Int):=by rw[hm,Int.tmod_eq_emod_of_nonneg (by omega)];rfl
     have hm2:m≤y:=by rw[hm];exact Nat.mod_le _ _
     have hmk:m<2 ^ k:=by rw[hm,← HP.out];exact Nat.mod_lt _ hp1
     have C4:=xI hR m (k:Int) (by omega) (by rw[List.length_map];have:=HLow.out i hi;omega)
     rw[Ef.put_num (by omega) hmk,← List.map_append,show y7 k ids i++Bit.num m k=y7 k ids (i+1) by rw[lowTo_succ,hy,Int.toNat_natCast,hm,HP.out]]at C4
     generalize Bit.putErr m (k:Int)=E2 at C4
     have HN:=hide hN
     have HM:=hide hM
     clear hA hc1 hy hm hmk hR hN hM hEw
     go_wp2_with fail
     refine C4.mono ?_
     rintro e wc ⟨rfl,obc,hRc,hNc,hMc⟩
     clear C4
     go_wp2
     go_roundw
     case rel=>exact⟨i+1,obc,by omega,by go_num,hRc,HN.out.trans HM.out.size hNc,HM.out.trans hMc HN.out⟩
     case measure=>simp[intOf];omega
    ·obtain rfl:n=i:=by omega
     have HRn:=hide hR
     have HNn:=hide hN
     have HMn:=hide hM
     clear hR hN hM
     go_wp2
     go_loopw [11,12] (fun x y wr=>∃ (i:Nat) (ob:Option Nat),i≤n∧x=.int .i64 (was k ids i:Int)∧y=.int .i64 (i:Int)∧RefW wr g g ob ((y7 k ids n++y8 k ids i).map yX)∧NewOb wa none ob∧Mod wa wr g none) (fun _ y _=>n-(intOf y).toNat)
     case atStart=>exact⟨0,ob,by omega,rfl,rfl,by simpa[y8] using HRn.out,HNn.out,HMn.out⟩
     case round =>
      clear HRn HNn HMn
      obtain⟨i,ob,hi,rfl,rfl,hR,hN,hM⟩:=hrel
      have hlen:((y7 k ids n++y8 k ids i).map yX).length≤1600000:=by
       rw[List.length_map,List.length_append,HHigh.out i hi]
       have:=HLow.out n (Nat.le_refl _)
       have h3:was k ids i≤20000:=by
        rcases Nat.eq_zero_or_pos i with e|e
        ·subst e;simp[was]
        ·obtain⟨y,_,h4,_,h5⟩:=HRow.out (i-1) (by omega)
         unfold was
         rw[if_neg (by omega),h5]
         exact Nat.le_trans (Nat.div_le_self _ _) (by omega)
       omega
      by_cases hlt:i<n
      ·have hiI:(i:Int)<(n:Int):=by omega
       obtain⟨_,hEw,hA⟩:=HAll.out wr hM
       rcases hA.2 with h9 | ⟨b1,o1,rfl,_,hc1⟩
       ·omega
       have e1:=hc1 i hlt
       obtain⟨y,hy,hyb,hwz,hhz⟩:=HRow.out i hlt
       rw[hy]at e1
       obtain⟨z,hz2⟩:∃ z,z=y / p:=⟨_,rfl⟩
       have hzI:(y:Int).tdiv (p:Int)=(z:Int):=by rw[hz2,Int.tdiv_eq_ediv_of_nonneg (by omega)];rfl
       have hzy:z≤y:=by rw[hz2];exact Nat.div_le_self _ _
       rw[← hz2]at hwz hhz
       have HS:=hide (highTo_succ k ids i)
       have HWs:=hide (show was k ids (i+1)=z by rw[was_succ,← hhz];rfl)
       obtain⟨a,ha⟩:∃ a,a=was k ids i:=⟨_,rfl⟩
       rw[← ha]at hwz HS ⊢
       rw[hhz]at HS
       have hdI:(z:Int)-(a:Int)=((z-a:Nat):Int):=by omega
       have C4:=Uy hR ((z-a:Nat):Int) (by omega)
       rw[Ef.un_num (by omega),← List.map_append,List.append_assoc,← HS.out]at C4
       generalize Bit.unaryErr ((z-a:Nat):Int)=E2 at C4
       have hd2:z-a≤z:=by omega
       generalize z-a=d at *
       have HN:=hide hN
       have HM:=hide hM
       have HCell:=hide (show ∀ W,Mod wa W g none→W.cell? ⟨b1,o1+i,none⟩=some (.int .i64 (y:Int)) from fun W hW=>by
        rcases (HAll.out W hW).2.2.2 with h9 | ⟨b',o',e',_,hc'⟩
        ·omega
        ·simp only[Option.some.injEq,Addr.mk.injEq,and_true]at e'
         obtain⟨rfl,rfl⟩:=e'
         rw[← hy]
         exact hc' i hlt)
       clear hA hc1 hy hz2 hR hN hM hEw hhz ha hlen HS
       go_wp2_with fail
       refine C4.mono ?_
       rintro e wc ⟨rfl,obc,hRc,hNc,hMc⟩
       have f1:=HCell.out wc (HM.out.trans hMc HN.out)
       clear C4 e1
       go_wp2
       go_roundw
       case rel=>exact⟨i+1,obc,by omega,by rw[HWs.out],by go_num,hRc,HN.out.trans HM.out.size hNc,HM.out.trans hMc HN.out⟩
       case measure=>simp[intOf];omega
      ·obtain rfl:n=i:=by omega
       obtain⟨hV,hE,_⟩:=HAll.out wr hM
       have hBE:y7 k ids n++y8 k ids n=xW k ids:=by unfold xW;rw[HL.out]
       rw[hBE]at hR hlen
       have C5:=qL hR (by rw[List.length_map]at hlen;omega)
       have HV:=hide hV
       have HE:=hide hE
       have hgr:=hR.lt
       clear hR hN hM hV hE hBE
       go_wp2_with fail
       refine C5.mono ?_
       rintro e wb ⟨l,hPk,vb,rfl,hOb,hEb⟩
       have hl5:l.length≤1000000:=by
        have:=hPk.1
        rw[List.length_map]at hlen
        omega
       obtain rfl:=hPk.is
       obtain⟨Ab,cb,rfl,_,_,hbb⟩:=hOb.form
       have hV5:=HV.out.ext hEb
       have hE5:=HE.out.trans hEb
       have hel:=enc_len n
       have hbase:=hE5.le
       clear C5 hPk hOb
       go_wp2_with (at_builtin;refine zw rfl (.tmp 78) (.tmp 79) rfl rfl hV5 rfl hbb (by omega) hbase ?_;intro v6 w6 hO6 hG6;have hE6:=hV5.below hE5 hG6 hbase)
       go_ret2
       exact⟨_,rfl,hO6,hE6⟩
end Go.Proofs.YtpmedpdjglcdpaaGreatDoor
namespace Go.Proofs.YtpmedpdjglcdpaaGreatDoor
open Go.RowKit Pst
theorem Pst.row_small {bound:Int}{l:List Int}(hb:0≤bound∧bound≤20000)(h:zT bound l=true)(hn:l.length≤2000):Ef.writeE bound l=(Ef.rowB bound l,0)∧(Ef.rowB bound l).length≤4300:=by
 unfold zT at h
 rw[Bool.and_eq_true]at h
 have hw:Ef.writeE bound l=(Ef.rowB bound l,0):=by unfold Ef.writeE;rw[if_pos ⟨hb,h.2⟩]
 refine⟨hw,?_⟩
 have hne:0<l.length:=List.length_pos_iff.2 (of_decide_eq_true h.1)
 have h1:=Ef.short (bound:=bound) (ids:=l) (by rw[hw]) hne hn
 rw[hw]at h1
 have h2:=Ef.widE_le (bound:=bound) (n:=l.length) hb.2
 have h3:l.length*(Ef.widE bound l.length+3)≤2000*17:=Nat.mul_le_mul hn (by omega)
 dsimp only at h1
 omega
theorem Pst.rows_take {bound:Int}{U:List (List Int)}{i:Nat}(h:i<U.length):(U.take (i+1)).flatMap (Ef.rowB bound)=(U.take i).flatMap (Ef.rowB bound)++Ef.rowB bound (U.getD i []):=by
 rw[List.take_add_one,List.getElem?_eq_getElem h,List.getD_eq_getElem?_getD,List.getElem?_eq_getElem h,List.flatMap_append]
 show _++[U[i]].flatMap _=_++Ef.rowB bound U[i]
 rw[List.flatMap_cons,List.flatMap_nil,List.append_nil]
theorem Pst.rows_len {bound:Int}{U:List (List Int)}(h:∀ l,l∈U→(Ef.rowB bound l).length≤4300):(U.flatMap (Ef.rowB bound)).length≤4300*U.length:=by
 induction U with
 | nil=>simp
 | cons a t ih =>
  have h1:=h a (by simp)
  have h2:=ih fun l hl=>h l (by simp[hl])
  rw[List.flatMap_cons,List.length_append,List.length_cons]
  omega
set_option maxHeartbeats 2000000 in
set_option maxRecDepth 10000 in
theorem Xe (size bound:Int)(m:IxV)(w:World)(h:m.lies w)(hz:-9223372036854775808≤size∧size≤9223372036854775807)(hn:m.n1≤1000)(hs:∀ s,s∈m.x.terms→s.length≤1000000)(hls:∀ l,l∈m.x.lists→l.length≤2000) :
  Calls Tryz.prog 38 #[.int .i64 size,.int .i64 bound,.agg #[.slice m.a1 m.n1 m.c1,.slice m.a2 m.n2 m.c2]] w (zB w (bytesE size bound m.x).1 (bytesE size bound m.x).2):=by
 unfold zB
 have CM0:=fun W (hE:Ext w W)=>UD bound m W (h.later hE) (by omega) hs (fun l hl=>by have:=hls l hl;omega)
 obtain⟨a1,n1,c1,a2,n2,c2,x⟩:=m
 obtain⟨⟨-,-,hT⟩,-,-,hL⟩:=h
 dsimp only at hT hL hn hs hls CM0 ⊢
 have hl1:=hT.1
 have hl2:=hL.1
 obtain⟨w1,hw1⟩:∃ w1,w1=w.alloc (.cells #[.slice a1 n1 c1,.slice a2 n2 c2] 69):=⟨_,rfl⟩
 have HE1:=hide (show Ext w w1 by rw[hw1];exact zb w _)
 have HW:=hide (show Whole w1 w.heap.size 69 #[.slice a1 n1 c1,.slice a2 n2 c2] by rw[hw1];exact Whole.new w _ _)
 have CM:=CM0 w1 HE1.out
 clear CM0
 by_cases g1:size<1
 ·have e:bytesE size bound x=([],13):=by unfold bytesE;rw[if_pos (.inl g1)]
  rw[e]
  clear hw1 CM
  go_enter Tryz.func38,Tryz.ntmps38
  go_wp2
  refine bodyPost_ret (results_tmp2 rfl _ _ _) rfl ?_
  exact⟨_,rfl,OwnB.nil _ _,zb w _⟩
 by_cases g2:64<size
 ·have e:bytesE size bound x=([],13):=by unfold bytesE;rw[if_pos (.inr (.inl g2))]
  rw[e]
  clear hw1 CM
  go_enter Tryz.func38,Tryz.ntmps38
  go_wp2
  refine bodyPost_ret (results_tmp2 rfl _ _ _) rfl ?_
  exact⟨_,rfl,OwnB.nil _ _,zb w _⟩
 cases hm:mayE bound x with
 | false =>
  have e:bytesE size bound x=([],13):=by unfold bytesE;rw[if_pos (.inr (.inr hm))]
  rw[e]
  rw[hm]at CM
  clear hm e
  go_enter Tryz.func38,Tryz.ntmps38
  go_wp2_with fail
  rw[← hw1]
  clear hw1
  refine CM.mono ?_
  rintro e w2 ⟨rfl,hE2⟩
  clear CM
  go_wp2
  refine bodyPost_ret (results_tmp2 rfl _ _ _) rfl ?_
  exact⟨_,rfl,OwnB.nil _ _,HE1.out.trans hE2⟩
 | true =>
  obtain⟨hb,hlen,hd,ho⟩:=may_facts hm
  have e:bytesE size bound x=(Dic.dictB size.toNat x.terms++x.lists.flatMap (Ef.rowB bound),0):=by unfold bytesE;rw[if_neg (by rw[hm];simp;omega)]
  rw[e]
  rw[hm]at CM
  have CD:=fun W (hE:Ext w W)=>Y3 a1 n1 c1 x.terms size W (hT.later hE) (by omega) hs hz
  have ed:Dic.writeE size x.terms=(Dic.dictB size.toNat x.terms,0):=by unfold Dic.writeE;rw[if_neg (by rw[hd];simp;omega)]
  rw[ed]at CD
  unfold zB at CD
  have hDl:=Dic.dict_small (size:=size.toNat) (by omega) (by omega) (fun s hs=>((Dic.may_facts hd).2.1 s hs).2)
  have HL:=hide hL
  have hn2:n2≤1000:=by omega
  have HRow:=hide (show ∀ i,i<n2→Ef.writeE bound (x.lists.getD i [])=(Ef.rowB bound (x.lists.getD i []),0)∧(Ef.rowB bound (x.lists.getD i [])).length≤4300∧(x.lists.getD i []).length≤2000 from fun i hi=>by
   have hmem:x.lists.getD i []∈x.lists:=by rw[List.getD_eq_getElem?_getD,List.getElem?_eq_getElem (by omega)];exact List.getElem_mem _
   exact⟨(row_small hb (ho _ hmem) (hls _ hmem)).1,(row_small hb (ho _ hmem) (hls _ hmem)).2,hls _ hmem⟩)
  have HTk:=hide (show ∀ i,i<n2→(x.lists.take (i+1)).flatMap (Ef.rowB bound)=(x.lists.take i).flatMap (Ef.rowB bound)++Ef.rowB bound (x.lists.getD i []) from fun i hi=>rows_take (by omega))
  have HLn:=hide (show ∀ i,((x.lists.take i).flatMap (Ef.rowB bound)).length≤4300000 from fun i=>by
   have h1:=rows_len (bound:=bound) (U:=x.lists.take i) fun l hl=>(row_small hb (ho _ (List.mem_of_mem_take hl)) (hls _ (List.mem_of_mem_take hl))).2
   rw[List.length_take]at h1
   omega)
  have HAll:=hide (show x.lists.take n2=x.lists by rw[List.take_of_length_le (by omega)])
  have H0:=hide (show (x.lists.take 0).flatMap (Ef.rowB bound)=[] by simp)
  generalize Dic.dictB size.toNat x.terms=D at *
  have HDl:=hide (show D.length≤100000 by omega)
  obtain⟨U,hU⟩:∃ U,U=x.lists:=⟨_,rfl⟩
  rw[← hU]at HL HRow HTk HLn HAll H0 ⊢
  clear hm e ed hd ho hlen hT hL hl1 hl2 hs hls hU hDl
  go_enter Tryz.func38,Tryz.ntmps38
  go_wp2_with fail
  rw[← hw1]
  clear hw1
  refine CM.mono ?_
  rintro e w2 ⟨rfl,hE2⟩
  have HE2:=hide hE2
  have d0:=(HW.out.ext HE2.out).at 0 (u:=.slice a1 n1 c1) rfl
  have C2:=CD w2 (HE1.out.trans HE2.out)
  clear CM hE2 CD
  go_wp2_with fail
  refine C2.mono ?_
  rintro e w3 ⟨v3,rfl,hO3,hE3⟩
  have HO3:=hide (hO3.mono HE2.out.le)
  have HE3:=hide (HE2.out.trans hE3)
  clear C2 hO3 hE3 d0
  go_wp2
  go_loopw [10,8] (fun y v wr=>∃ i:Nat,i≤n2∧y=.int .i64 (i:Int)∧OwnB wr w1.heap.size v (D++(U.take i).flatMap (Ef.rowB bound))∧Ext w1 wr) (fun y _ _=>n2-(intOf y).toNat)
  case atStart=>exact⟨0,by omega,rfl,by rw[H0.out,List.append_nil];exact HO3.out,HE3.out⟩
  case round =>
   obtain⟨i,hi,rfl,hO,hE⟩:=hrel
   have HO:=hide hO
   have HE:=hide hE
   have d1:=(HW.out.ext HE.out).at 1 (u:=.slice a2 n2 c2) rfl
   clear hO hE HO3 HE3 HE2
   by_cases hlt:i<n2
   ·have hiI:(i:Int)<(n2:Int):=by omega
    obtain⟨b1,o1,a3,c3,hA,e1,_,_,q1⟩:=(HL.out.ext (HE1.out.trans HE.out)).at hlt
    subst hA
    obtain⟨r1,r2,r3⟩:=HRow.out i hlt
    have C:=Xd a3 _ c3 _ bound wr q1 (by omega)
    rw[r1]at C
    unfold zB at C
    have HTi:=hide (HTk.out i hlt)
    have HLi:=hide (HLn.out i)
    obtain⟨R,hR⟩:∃ R,R=Ef.rowB bound (U.getD i []):=⟨_,rfl⟩
    rw[← hR]at C r2 HTi
    dsimp only at C
    generalize (U.getD i []).length=k at *
    generalize (U.take i).flatMap (Ef.rowB bound)=P at *
    clear q1 r1 hR
    go_wp2_with fail
    refine C.mono ?_
    rintro e w4 ⟨v4,rfl,hO4,hE4⟩
    obtain⟨A4,c4,hv4,-,-,h4⟩:=hO4.form
    have H4:=hide h4
    have HE4:=hide (HE.out.trans hE4)
    have HO4:=hide (HO.out.ext hE4)
    obtain⟨kr,hkr⟩:∃ kr,kr=R.length:=⟨_,rfl⟩
    rw[← hkr]at hv4 H4 r2
    subst hv4
    clear C hO4 hE4 h4 HO d1 e1 hkr
    go_wp2_with (at_builtin;refine ze rfl (.tmp 49) (.tmp 50) rfl rfl HO4.out rfl H4.out (by have:=HDl.out;have:=HLi.out;rw[List.length_append];omega) HE4.out.le ?_;intro v5 w5 hO5 hG5 _;rw[List.append_assoc,← HTi.out]at hO5;have HO5:=hide hO5;have HE5:=hide (show Ext w1 w5 from Below.grown HE4.out hG5 HE4.out.le (fun j hj=>(HO4.out.lt j hj).1));clear hO5 hG5)
    go_roundw
    case rel=>exact⟨i+1,by omega,by go_num,HO5.out,HE5.out⟩
    case measure=>simp[intOf];omega
   ·have hiI:¬ (i:Int)<(n2:Int):=by omega
    obtain rfl:n2=i:=by omega
    rw[HAll.out]at HO
    go_wp2
    refine bodyPost_ret (results_tmp2 rfl _ _ _) rfl ?_
    exact⟨_,rfl,HO.out.mono HE1.out.le,HE1.out.trans HE.out⟩
end Go.Proofs.YtpmedpdjglcdpaaGreatDoor
namespace Go.Proofs.YtpmedpdjglcdpaaGreatDoor
open Go.RowKit Pst
def Yu (W:World)(x:Ix)(e:Ending)(w':World):Prop:=∃ m:IxV,e=.returned (.agg #[.slice m.a1 m.n1 m.c1,.slice m.a2 m.n2 m.c2])∧m.x=x∧m.lies w'∧Ext W w'
end Go.Proofs.YtpmedpdjglcdpaaGreatDoor
namespace Go.Proofs.YtpmedpdjglcdpaaGreatDoor
open Go.RowKit
theorem xe {w:World}{b1 b2:Nat}{e1 e2:TypeId}{s1 s2:Nat}{v1 v2:Value}{n1 n2:Nat}{x1 x2:List Value}(h1:w.ownsRow b1 e1 s1 v1 n1 x1)(h2:w.ownsRow b2 e2 s2 v2 n2 x2)(ht:e1≠e2):v1.ownBlock=none∨v1.ownBlock≠v2.ownBlock:=by
 rcases h1.2 with ⟨rfl,_⟩ | ⟨g1,_,_,rfl,_,hg1,_⟩
 ·exact .inl rfl
 rcases h2.2 with ⟨rfl,_⟩ | ⟨g2,_,_,rfl,_,hg2,_⟩
 ·exact .inr (by simp[Value.ownBlock])
 ·refine .inr fun e=>?_
  simp only[Value.ownBlock,Option.some.injEq]at e
  subst e
  rw[hg1]at hg2
  simp only[Option.some.injEq,Obj.cells.injEq]at hg2
  exact ht hg2.2.1
theorem OwnI.lower {w:World}{base b':Nat}{v:Value}{L:List Int}(h:OwnI w base v L)(hb:b'≤base):OwnI w b' v L:=⟨h.1,h.2.imp_right fun ⟨g,cap,cur,e,hg,r⟩=>⟨g,cap,cur,e,Nat.le_trans hb hg,r⟩⟩
def OwnLs (w:World)(base:Nat)(v:Value)(ls:List (List Int)):Prop :=
 ∃ vs:List Value,vs.length=ls.length∧w.ownsRow base 48 1 v vs.length vs∧∀ i,i<ls.length→OwnI w base (vs.getD i undef) (ls.getD i [])
theorem VM:48≠3:=by decide
theorem abq:(Tryz.prog.info? 48).map (fun i=>(i.zero,i.size,i.bytes))=some (some (.slice none 0 0),1,24):=by kernel_rfl
theorem OwnLs.nil (w:World)(base:Nat):OwnLs w base (.slice none 0 0) []:=⟨[],rfl,World.ownsRow_nil w base _ _,fun i hi=>by simp at hi⟩
theorem OwnLs.ext {w w':World}{base:Nat}{v:Value}{ls:List (List Int)}(h:OwnLs w base v ls)(hE:Ext w w'):OwnLs w' base v ls:=by
 obtain⟨vs,h1,h2,h3⟩:=h
 exact⟨vs,h1,World.ownsRow.kept h2 (hE.grown none) (by cases hv:v.ownBlock<;>simp),fun i hi=>(h3 i hi).ext hE⟩
theorem OwnLs.lt {w:World}{base:Nat}{v:Value}{ls:List (List Int)}(h:OwnLs w base v ls):∀ k,v.ownBlock=some k→base≤k∧k<w.heap.size:=by
 obtain⟨vs,h1,h2,h3⟩:=h
 exact World.ownsRow.lt h2
theorem OwnLs.kept {w w':World}{base:Nat}{v:Value}{ls:List (List Int)}{b:Nat}{t:TypeId}{cs:Array Value}(h:OwnLs w base v ls)(hW:Whole w b t cs)(h1:t≠48)(h2:t≠3)(hG:w.grownBy w' (some b)):OwnLs w' base v ls:=by
 obtain⟨vs,q1,q2,q3⟩:=h
 have key:∀ {e:TypeId} {s:Nat} {v:Value} {n:Nat} {x:List Value},w.ownsRow base e s v n x→t≠e→v.ownBlock=none∨v.ownBlock≠some b:=fun {e s v n x} hr ht=>by
  rcases hr.2 with ⟨rfl,_⟩ | ⟨g,_,_,rfl,_,hg,_⟩
  ·exact .inl rfl
  ·refine .inr fun e=>?_
   simp only[Value.ownBlock,Option.some.injEq]at e
   subst e
   unfold Whole at hW
   rw[hW]at hg
   simp only[Option.some.injEq,Obj.cells.injEq]at hg
   exact ht hg.2.1
 exact⟨vs,q1,World.ownsRow.kept q2 hG (key q2 h1),fun i hi=>World.ownsRow.kept (q3 i hi) hG (key (q3 i hi) h2)⟩
theorem OwnLs.form {w:World}{base:Nat}{v:Value}{ls:List (List Int)}(h:OwnLs w base v ls):∃ A c,v=.slice A ls.length c∧ls.length≤c∧c≤maxLen∧ILists w w.heap.size A ls.length ls:=by
 have hl:=h.lt
 obtain⟨vs,q1,q2,q3⟩:=h
 have hrow:∀ i,i<ls.length→IRow w w.heap.size (vs.getD i undef) (ls.getD i []):=fun i hi=>by
  obtain⟨A,c,e,h1,h2,h3⟩:=(q3 i hi).form2
  exact⟨A,c,e,h1,h2,h3⟩
 rcases q2.2 with ⟨rfl,h0⟩ | ⟨g,cap,cur,rfl,hb,hg,hn,hc,hs,ht⟩
 ·exact⟨none,0,by rw[← q1,h0],by omega,by unfold maxLen;omega,rfl,.inl (by omega)⟩
 ·refine⟨_,cap,by rw[q1],by omega,hc,rfl,.inr ⟨g,0,rfl,(hl g rfl).2,fun i hi=>⟨_,?_,hrow i hi⟩⟩⟩
  have hk:=World.ownsRow.cellAt q2 i (by omega)
  rw[Nat.zero_add,hk,List.getD_eq_getElem?_getD,List.getElem?_eq_getElem (by omega)]
  rfl
section
variable {o:Oper}{a:Act}{Q:Exit→Act→World→Prop}{w:World}{base:Nat}{v:Value}{ls:List (List Int)}
theorem qP {ops:Array Oper}{rest:List Oper}(hgd:o.guard=none)(s x:Operand)(ho:o.op=.call { callee:=.builtin .append,args:=#[s,x],argTypes:=#[67,67] })(hs:a.eval s=v){u:Value}{p:List Int}(hown:OwnLs w base v ls)(hu:OwnI w base u p)
  {c:Nat} (hx:a.eval x=.slice (some ⟨w.heap.size,0,none⟩) 1 c) (hlen:ls.length≤1000000) (hbase:base≤w.heap.size)
  (h:∀ v' w',OwnLs w' base v' (ls++[p])→(w.alloc (.cells #[u] 48)).grownBy w' v.ownBlock→NewOb (w.alloc (.cells #[u] 48)) v.ownBlock v'.ownBlock→wpList Tryz.prog ops Q rest (a.put o.dst v') w') :
  wpList Tryz.prog ops Q (o::rest) a (w.alloc (.cells #[u] 48)):=by
 have hE:=zb w (.cells #[u] 48)
 obtain⟨vs,q1,q2,q3⟩:=hown.ext hE
 have hu':=hu.ext hE
 obtain⟨A,cu,eu,-,-,-⟩:=hu.form2
 obtain⟨i,hi,hz,hsz,hby⟩:=info_parts abq
 refine wpList_append_own_at _ hgd s x 67 ho base 48 i _ 1 24 Tryz.underlying67 hi hz hsz hby rfl (by omega) v vs.length vs hs q2 ⟨w.heap.size,0,none⟩ 1 c [u] hx rfl (by
  intro j z hz
  match j,hz with
  | 0,hz =>
   have:(⟨w.heap.size,0,none⟩:Addr).add 0=⟨w.heap.size,0,none⟩:=rfl
   rw[this,zA]
   simpa using hz
  | j+1,hz=>simp at hz) (by
  intro z hz
  simp at hz
  subst hz
  subst eu
  rfl) (by unfold maxLen;omega) (by omega) (by simp;omega) ?_
 intro v' w' h2 h3 _ h5
 have keep:∀ {z:Value} {l:List Int},OwnI (w.alloc (.cells #[u] 48)) base z l→OwnI w' base z l:=fun {z l} hz=>World.ownsRow.kept hz h3 (xe hz q2 (fun e=>VM e.symm))
 refine h v' w' ⟨vs++[u],by simp[q1],by rw[List.length_append];exact h2,fun i hi=>?_⟩ h3 (h5.imp id fun h=>⟨_,h,Nat.le_refl _⟩)
 rw[List.length_append,List.length_singleton]at hi
 by_cases hlt:i<ls.length
 ·have e1:(vs++[u]).getD i undef=vs.getD i undef:=by simp[List.getD_eq_getElem?_getD,List.getElem?_append_left (show i<vs.length by omega)]
  have e2:(ls++[p]).getD i []=ls.getD i []:=by simp[List.getD_eq_getElem?_getD,List.getElem?_append_left hlt]
  rw[e1,e2]
  exact keep (q3 i hlt)
 ·obtain rfl:i=ls.length:=by omega
  have e1:(vs++[u]).getD ls.length undef=u:=by rw[← q1];simp[List.getD_eq_getElem?_getD]
  have e2:(ls++[p]).getD ls.length []=p:=by simp[List.getD_eq_getElem?_getD]
  rw[e1,e2]
  exact keep hu'
end
end Go.Proofs.YtpmedpdjglcdpaaGreatDoor
namespace Go.Proofs.YtpmedpdjglcdpaaGreatDoor
open Go.RowKit Len Can Huf
def H16At (w:World)(B:Nat)(A:Option Addr)(n:Nat)(L:List Nat):Prop :=
 L.length=n∧(n=0∨∃ b off,A=some ⟨b,off,none⟩∧b<B∧∀ i,i<n→w.cell? ⟨b,off+i,none⟩=some (.int .u16 ((L.getD i 0:Nat):Int)))
theorem H16At.below {w w':World}{B C:Nat}{A:Option Addr}{n:Nat}{L:List Nat}(h:H16At w B A n L)(hb:Below C w w')(hC:B≤C):H16At w' B A n L:=by
 refine⟨h.1,?_⟩
 rcases h.2 with h0 | ⟨b,off,hA,hB,hc⟩
 ·exact .inl h0
 ·exact .inr ⟨b,off,hA,hB,fun i hi=>by rw[hb.cell (p:=⟨b,off+i,none⟩) (Nat.lt_of_lt_of_le hB hC)];exact hc i hi⟩
theorem H16At.mono {w:World}{B C:Nat}{A:Option Addr}{n:Nat}{L:List Nat}(h:H16At w B A n L)(hC:B≤C):H16At w C A n L:=by
 refine⟨h.1,?_⟩
 rcases h.2 with h0 | ⟨b,off,hA,hB,hc⟩
 ·exact .inl h0
 ·exact .inr ⟨b,off,hA,Nat.lt_of_lt_of_le hB hC,hc⟩
theorem OwnH.reads {w:World}{base:Nat}{v:Value}{L:List Nat}(h:OwnH w base v L):∃ A c,v=.slice A L.length c∧L.length≤c∧c≤maxLen∧H16At w w.heap.size A L.length L:=by
 obtain⟨A,c,rfl,hc,hm,hA⟩:=h.form
 refine⟨A,c,rfl,hc,hm,rfl,?_⟩
 rcases hA with h0 | ⟨g,rfl,hb,hg⟩
 ·exact .inl h0
 ·exact .inr ⟨g,0,rfl,hg,fun i hi=>by rw[Nat.zero_add];exact (h.cell hi).1⟩
def acU (w:World)(B:Nat)(v:Value)(l:List UInt8):Prop :=
 ∃ A1 c1 A2 c2,v=.agg #[.slice A1 l.length c1,.slice A2 l.length c2]∧l.length≤c1∧c1≤maxLen∧Bytes w B A1 l.length l∧H16At w B A2 l.length (zW l)
def RefCodR (w:World)(lo hi:Nat)(v:Value)(l:List UInt8):Prop :=
 ∃ A1 c1 A2 c2,v=.agg #[.slice A1 l.length c1,.slice A2 l.length c2]∧OwnB w lo (.slice A1 l.length c1) l∧OwnH w lo (.slice A2 l.length c2) (zW l) ∧
  (∀ k,Value.ownBlock (.slice A1 l.length c1)=some k→k<hi)∧(∀ k,Value.ownBlock (.slice A2 l.length c2)=some k→k<hi)
theorem RefCodR.mod {w w':World}{lo hi g:Nat}{ob:Option Nat}{v:Value}{l:List UInt8}(h:RefCodR w lo hi v l)(hM:Mod w w' g ob)(hg:g<lo∨hi≤g)(ho:∀ k,ob=some k→k<lo∨hi≤k):RefCodR w' lo hi v l:=by
 obtain⟨A1,c1,A2,c2,e,h1,h2,h3,h4⟩:=h
 have far:∀ x:Value,(∀ k,x.ownBlock=some k→lo≤k∧k<hi)→x.ownBlock≠some g∧(x.ownBlock=none∨x.ownBlock≠ob):=fun x hx=>by
  refine⟨fun e=>by have:=hx g e;omega,?_⟩
  cases hv:x.ownBlock with
  | none=>exact .inl rfl
  | some k =>
   refine .inr fun e=>?_
   have:=hx k hv
   have:=ho k e.symm
   omega
 obtain⟨a1,a2⟩:=far _ (fun k hk=>⟨(h1.lt k hk).1,h3 k hk⟩)
 obtain⟨b1,b2⟩:=far _ (fun k hk=>⟨(h2.lt k hk).1,h4 k hk⟩)
 refine⟨A1,c1,A2,c2,e,hM.own h1 a1 a2,⟨h2.1,?_⟩,h3,h4⟩
 rcases h2.2 with hn | ⟨x,cap,cur,e2,hb,hgg,rest⟩
 ·exact .inl hn
 ·rw[e2]at b1 b2
  refine .inr ⟨x,cap,cur,e2,hb,?_,rest⟩
  rw[hM.block x (Array.getElem?_eq_some_iff.1 hgg).1 (fun e3=>b1 (by subst e3;rfl)) (fun e3=>by
   rcases b2 with b2|b2
   ·simp[Value.ownBlock]at b2
   ·exact b2 (by simpa[Value.ownBlock] using e3))]
  exact hgg
theorem RefCodR.ext {w w':World}{lo hi:Nat}{v:Value}{l:List UInt8}(h:RefCodR w lo hi v l)(hE:Ext w w'):RefCodR w' lo hi v l:=by
 obtain⟨A1,c1,A2,c2,e,h1,h2,h3,h4⟩:=h
 exact⟨A1,c1,A2,c2,e,h1.ext hE,h2.ext hE,h3,h4⟩
def UE (w:World)(l:List UInt8)(e:Ending)(w':World):Prop :=
 ∃ v,e=.returned (.tuple #[v,.int .i64 (checkE l)])∧(right l=true→RefCodR w' w.heap.size w'.heap.size v l)∧(right l=false→v=.agg #[.slice none 0 0,.slice none 0 0])∧Ext w w'
theorem Can.codesL_len (l:List UInt8):(zW l).length=l.length:=by simp[zW]
theorem Can.codesL_at {l:List UInt8}{i:Nat}(hi:i<l.length):(zW l).getD i 0=word l i:=by simp[zW,List.getD_eq_getElem?_getD,hi]
theorem RefCodR.cod {w:World}{lo hi:Nat}{v:Value}{l:List UInt8}(h:RefCodR w lo hi v l):acU w w.heap.size v l:=by
 obtain⟨A1,c1,A2,c2,e,h1,h2,_,_⟩:=h
 obtain⟨A7,c7,e7,h7c,h7m,h7⟩:=h1.form
 simp only[Value.slice.injEq]at e7
 obtain⟨rfl,_,rfl⟩:=e7
 obtain⟨A8,c8,e8,_,_,h8⟩:=OwnH.reads h2
 simp only[Value.slice.injEq]at e8
 obtain⟨rfl,_,rfl⟩:=e8
 rw[codesL_len]at h8
 exact⟨_,_,_,_,e,h7c,h7m,h7,h8⟩
end Go.Proofs.YtpmedpdjglcdpaaGreatDoor
namespace Go.Proofs.YtpmedpdjglcdpaaGreatDoor
open Go.RowKit Len Can
def Can.itemV (x m:Nat):Array Value:=#[.int .u8 (x:Int),.int .i64 (m:Int)]
theorem y6:(Tryz.prog.info? 240).map (·.size)=some 2:=by kernel_rfl
theorem Can.itemV_one (x m:Nat):(itemV x m).all (·.oneCell')=true:=by
 simp[itemV]
 exact⟨rfl,rfl⟩
set_option maxHeartbeats 1000000 in
theorem abr (x m:Nat)(hx:x<256)(w:World):Calls Tryz.prog 211 #[.agg (itemV x m)] w fun e w'=>e=.returned (.bool (decide (x=0)))∧Ext w w':=by
 have hE1:=zb w (.cells (itemV x m) 240)
 have hW1:=Whole.new w 240 (itemV x m)
 have c0:=hW1.at 0 (u:=.int .u8 (x:Int)) rfl
 have HG:=hide (show decide (x=0)=((x:Int)==0) by
  by_cases h:x=0
  ·subst h;rfl
  ·rw[decide_eq_false h]
   symm
   rw[beq_eq_false_iff_ne]
   omega)
 generalize decide (x=0)=r at *
 generalize itemV x m=V at *
 go_enter Tryz.func211,Tryz.ntmps211
 go_wp2
 go_ret
 exact⟨zf HG.out.symm,hE1⟩
def Can.headM (x:UInt8)(r:List UInt8):Nat:=if x=0 then zrun 63 r+1 else 1
set_option maxHeartbeats 1000000 in
set_option maxRecDepth 1000000 in
theorem QX (A:Option Addr)(n c:Nat)(x:UInt8)(r:List UInt8)(w:World)(hr:r.length≤400)(h:Bytes w w.heap.size A n (x::r)):Calls Tryz.prog 195 #[.slice A n c] w fun e w'=>e=.returned (.agg (itemV x.toNat (headM x r)))∧Ext w w':=by
 have hl:=h.1
 subst hl
 have hE1:=zb w (.cells #[.int .u8 0,.int .i64 0] 240)
 have hW1:=Whole.new w 240 #[.int .u8 0,.int .i64 0]
 rcases (hE1.bytes h).2 with h0 | ⟨b,o,rfl,hB,hc⟩
 ·simp at h0
 have hc0:=hc 0 (by simp)
 rw[Nat.add_zero,List.getD_cons_zero]at hc0
 have hx8:=UInt8.toNat_lt x
 have hinf:(Tryz.prog.info? 240).map (·.size)=some (itemV x.toNat (headM x r)).size:=y6
 by_cases h0:x=0
 ·subst h0
  have hz:=jt 63 r
  have HZ:=hide (show ∀ i,i<zrun 63 r→r.getD i 0=0 from fun i hi=>by
   have:=congrArg (fun l=>l[i]?) (Zr 63 r)
   simp only[List.getElem?_take,if_pos hi,List.getElem?_replicate]at this
   rw[List.getD_eq_getElem?_getD,this]
   rfl)
  have HS:=hide (show zrun 63 r<63→zrun 63 r<r.length→r.getD (zrun 63 r) 0≠0 from fun h1 h2=>Zs 63 r h1 _ (by rw[List.head?_drop,List.getD_eq_getElem?_getD,List.getElem?_eq_getElem h2];rfl))
  have HM:=hide (show headM 0 r=zrun 63 r+1 from if_pos rfl)
  generalize zrun 63 r=m at *
  have HC:=hide (show ∀ i,i<r.length→(w.alloc (.cells #[.int .u8 0,.int .i64 0] 240)).cell? ⟨b,o+(i+1),none⟩=some (.int .u8 ((r.getD i 0).toNat:Int)) from fun i hi=>hc (i+1) (by simp;omega))
  have hmin:∃ M:Int,(if (64:Int)<((r.length:Int)+1) then 64 else (r.length:Int)+1)=M∧M=(min (r.length+1) 64:Nat):=⟨_,rfl,by split<;>omega⟩
  obtain⟨M,hM,hM2⟩:=hmin
  have HMn:=hide hM
  have HM2:=hide hM2
  clear hc h hM hM2
  change (w.alloc (.cells #[.int .u8 0,.int .i64 0] 240)).cell? ⟨b,o,none⟩=some (.int .u8 0) at hc0
  clear hinf
  go_enter Tryz.func195,Tryz.ntmps195
  go_wp2_with fail
  go_loopw [3] (fun a wq=>∃ j:Nat,j≤m∧a=.int .i64 ((j+1:Nat):Int)∧wq=w.alloc (.cells #[.int .u8 0,.int .i64 0] 240)) (fun a _=>64-(intOf a).toNat)
  case atStart=>exact⟨0,by omega,rfl,rfl⟩
  case round =>
   obtain⟨j,hj,rfl,rfl⟩:=hrel
   have hM2:=HM2.out
   by_cases hjm:j<m
   ·have h0j:=HZ.out j hjm
    have hcj:=HC.out j (by omega)
    rw[h0j]at hcj
    change (w.alloc (.cells #[.int .u8 0,.int .i64 0] 240)).cell? ⟨b,o+(j+1),none⟩=some (.int .u8 0) at hcj
    have hjM:((j+1:Nat):Int)<M:=by omega
    have hjr:j+1<r.length+1:=by omega
    clear h0j hM2
    go_wp2_with (refine vq rfl (.tmp 14) (.const (.int .i64 64)) rfl rfl rfl HMn.out ?_)
    go_roundw
    case rel=>exact⟨j+1,by omega,by go_num,trivial⟩
    case measure=>simp[intOf];omega
   ·obtain rfl:j=m:=by omega
    by_cases hjM:((j+1:Nat):Int)<M
    ·have hne:=HS.out (by omega) (by omega)
     have hcj:=HC.out j (by omega)
     have hy8:=UInt8.toNat_lt (r.getD j 0)
     have hyne:(r.getD j 0).toNat≠0:=fun e=>hne (UInt8.toNat_inj.1 e)
     generalize (r.getD j 0).toNat=y at *
     have hyb:((y:Int)==0)=false:=by rw[beq_eq_false_iff_ne];omega
     have hjr:j+1<r.length+1:=by omega
     clear hne hM2 hyne
     go_wp2_with (refine vq rfl (.tmp 14) (.const (.int .i64 64)) rfl rfl rfl HMn.out ?_)
     refine bodyPost_ret (results_cell_row rfl _ _ _ _ _ _ _ rfl (Whole.new w _ _) Tryz.underlying240 rfl y6) rfl ?_
     exact⟨by rw[HM.out];rfl,zb w _⟩
    ·clear hM2
     go_wp2_with (refine vq rfl (.tmp 14) (.const (.int .i64 64)) rfl rfl rfl HMn.out ?_)
     refine bodyPost_ret (results_cell_row rfl _ _ _ _ _ _ _ rfl (Whole.new w _ _) Tryz.underlying240 rfl y6) rfl ?_
     exact⟨by rw[HM.out];rfl,zb w _⟩
 ·have hx0:(0:Int)<(x.toNat:Int):=by
   have:x.toNat≠0:=fun e=>h0 (UInt8.toNat_inj.1 e)
   omega
  have HM:=hide (show headM x r=1 from if_neg h0)
  have hE5:=zb w (.cells (itemV x.toNat 1) 240)
  have hW5:=Whole.new w 240 (itemV x.toNat 1)
  go_enter Tryz.func195,Tryz.ntmps195
  go_wp2
  refine bodyPost_ret (results_cell_row rfl _ _ _ _ _ _ _ rfl hW5 Tryz.underlying240 rfl y6) rfl ?_
  exact⟨by rw[HM.out],hE5⟩
def Can.itemB (x m:Nat):List Bool:=Bit.num x 4++if x=0 then Bit.num (m-1) 6 else []
theorem Can.put4I {x:Nat}(h:x<16):Bit.putErr x 4=0∧Bit.putBits x 4=Bit.num x 4:=Bit.put_good (decide_eq_true ⟨by omega,by omega,h⟩)
theorem Can.put6I {x:Nat}(h:x<64):Bit.putErr x 6=0∧Bit.putBits x 6=Bit.num x 6:=Bit.put_good (decide_eq_true ⟨by omega,by omega,h⟩)
set_option maxHeartbeats 100000 in
set_option maxRecDepth 1000000 in
theorem X4 (x m:Nat)(hx:x<16)(hm:x=0→1≤m∧m≤64){t:TypeId}{R:List Value}{w:World}{base g:Nat}{ob:Option Nat}{B:List Bool}(h:WrtX t R w base g ob B)(hfit:B.length≤800000000) :
  Calls Tryz.prog 196 #[.agg (itemV x m),.pointer (some ⟨g,0,none⟩)] w fun e w'=>e=.returned (.tuple #[])∧∃ ob',WrtX t R w' base g ob' (B++itemB x m)∧NewOb w ob ob'∧Mod w w' g ob:=by
 have hE1:=zb w (.cells (itemV x m) 240)
 have hW1:=Whole.new w 240 (itemV x m)
 have c0:=hW1.at 0 (u:=.int .u8 (x:Int)) rfl
 have CP:=jq (h.ext hE1) x 4 (by omega)
 rw[(put4I hx).1,(put4I hx).2]at CP
 have CR:=fun W=>abr x m (by omega) W
 have HN:=hide (Bit.num_length x 4)
 have HI:=hide (show itemB x m=Bit.num x 4++if x=0 then Bit.num (m-1) 6 else [] from rfl)
 have hgl:=h.lt
 have hne:=h.ne
 have hob:=h.ob
 obtain⟨V,hV⟩:∃ V,V=itemV x m:=⟨_,rfl⟩
 have HVs:=hide (show V.size=2 by rw[hV];rfl)
 have HV1:=hide (show V[1]?=some (.int .i64 (m:Int)) by rw[hV];rfl)
 rw[← hV]at hE1 hW1 c0 CP CR ⊢
 clear hV
 go_enter Tryz.func196,Tryz.ntmps196
 go_wp2_with fail
 refine CP.mono ?_
 rintro e w2 ⟨rfl,ob2,hR2,hO2,hM2⟩
 have hW2:=hM2.whole hW1 (by omega) (fun e=>by have:=(hob _ e).2;omega)
 have hMw:Mod w w2 g ob:=(Mod.ofExt hE1).trans hM2 (.inl rfl)
 have hNw:NewOb w ob ob2:=(NewOb.same w ob).trans hE1.le hO2
 have hsz:=hE1.le
 have hg2:w.heap.size<w2.heap.size:=hW2.lt
 clear hW1 c0 CP hE1 hO2 hM2
 have hinf:(Tryz.prog.info? 240).map (·.size)=some V.size:=by rw[HVs.out];exact y6
 by_cases h0:x=0
 ·rw[decide_eq_true h0]at CR
  have hm0:=hm h0
  have HI2:=hide (show itemB x m=Bit.num x 4++Bit.num (m-1) 6 by rw[HI.out,if_pos h0])
  go_wp2_with (refine wpList_load_row rfl 240 (.tmp 2) rfl _ rfl _ _ _ _ hW2 Tryz.underlying240 rfl hinf ?_)
  refine (CR _).mono ?_
  rintro e w3 ⟨rfl,hE3⟩
  have hW3:=hW2.ext hE3
  have c1:=hW3.at 1 HV1.out
  have CP:=jq (hR2.ext hE3) (m-1) 6 (by rw[List.length_append,HN.out];omega)
  rw[(put6I (x:=m-1) (by omega)).1,(put6I (x:=m-1) (by omega)).2]at CP
  have hm1:(1:Int)≤(m:Int):=by omega
  have hm64:(m:Int)≤64:=by omega
  have hcv:((m-1:Nat):Int)=(m:Int)-1:=by omega
  rw[hcv]at CP
  have HCv:=hide hcv
  clear hcv CR hm hm0
  go_wp2_with fail
  refine CP.mono ?_
  rintro e w4 ⟨rfl,ob4,hR4,hO4,hM4⟩
  have hE23:=Mod.ofExt (g:=g) (ob:=ob2) hE3
  have hMf:=hMw.trans (hE23.trans hM4 (.inl rfl)) hNw
  have hNf:=hNw.trans hMw.size ((NewOb.same w2 ob2).trans hE3.le hO4)
  go_wp2
  go_end0
  refine⟨rfl,ob4,?_,hNf,hMf⟩
  rw[HI2.out,← List.append_assoc]
  exact hR4
 ·rw[decide_eq_false h0]at CR
  have HI2:=hide (show itemB x m=Bit.num x 4 by rw[HI.out,if_neg h0,List.append_nil])
  go_wp2_with (refine wpList_load_row rfl 240 (.tmp 2) rfl _ rfl _ _ _ _ hW2 Tryz.underlying240 rfl hinf ?_)
  refine (CR _).mono ?_
  rintro e w3 ⟨rfl,hE3⟩
  clear CR
  go_wp2
  go_end0
  refine⟨rfl,ob2,?_,hNw,hMw.trans (Mod.ofExt (ob:=ob2) hE3) hNw⟩
  rw[HI2.out]
  exact hR2.ext hE3
end Go.Proofs.YtpmedpdjglcdpaaGreatDoor
namespace Go.Proofs.YtpmedpdjglcdpaaGreatDoor.Huf
open Len Can
def tot (l:List UInt8)(O:List Nat):Nat:=(O.map fun s=>2 ^ (15-zg l s)).sum
def yA (l:List UInt8)(s:Nat):Nat:=word l s*2 ^ (15-zg l s)
def starts (l:List UInt8)(O:List Nat):List Nat:=O.map (yA l)
structure Ord (l:List UInt8)(k s:Nat)(O:List Nat):Prop where
 acc:Can.acc l k s=tot l O
 all:∀ t,t<l.length→done l k s t→t∈O
 at_:∀ i,i<O.length→O.getD i 0<l.length∧zg l (O.getD i 0)≠0∧yA l (O.getD i 0)=tot l (O.take i)
section
variable {l:List UInt8}{k s:Nat}{O:List Nat}
theorem JI (l:List UInt8)(O:List Nat)(s:Nat):tot l (O++[s])=tot l O+2 ^ (15-zg l s):=by simp[tot]
theorem JJ (l:List UInt8)(O:List Nat)(s:Nat):starts l (O++[s])=starts l O++[yA l s]:=by simp[starts]
theorem j8 (l:List UInt8)(O:List Nat):(starts l O).length=O.length:=by simp[starts]
theorem Ord.start:Ord l 1 0 [] where
 acc:=by rw[Zk];rfl
 all:=fun t _ h=>by unfold done at h;omega
 at_:=fun i hi=>absurd hi (by simp)
theorem Ord.turn (h:Ord l k l.length O):Ord l (k+1) 0 O where
 acc:=by rw[qq];exact h.acc
 all:=fun t ht hd=>h.all t ht (by unfold done at *;omega)
 at_:=h.at_
theorem Ord.pass (h:Ord l k s O)(hk:1≤k)(hs:s<l.length)(hne:zg l s≠k):Ord l k (s+1) O where
 acc:=by rw[xu l hk hs,if_neg hne];exact h.acc
 all:=fun t ht hd=>h.all t ht (by
  unfold done at *
  refine⟨hd.1,?_⟩
  rcases hd.2 with e|e
  ·exact .inl e
  ·by_cases e2:t=s
   ·subst e2;omega
   ·exact .inr ⟨e.1,by omega⟩)
 at_:=h.at_
theorem Ord.put (h:Ord l k s O)(hk:1≤k)(hs:s<l.length)(he:zg l s=k):Ord l k (s+1) (O++[s]) where
 acc:=by rw[xu l hk hs,if_pos he,h.acc,JI,he]
 all:=fun t ht hd=>by
  rw[List.mem_append]
  by_cases e2:t=s
  ·exact .inr (by simp[e2])
  ·exact .inl (h.all t ht (by unfold done at *;omega))
 at_:=fun i hi=>by
  rw[List.length_append]at hi
  simp at hi
  by_cases hlt:i<O.length
  ·have:=h.at_ i hlt
   rw[List.take_append_of_le_length (by omega)]
   simp only[List.getD_eq_getElem?_getD,List.getElem?_append_left hlt]at *
   exact this
  ·obtain rfl:i=O.length:=by omega
   have e:(O++[s]).getD O.length 0=s:=by simp[List.getD_eq_getElem?_getD]
   rw[e,List.take_append_of_le_length (Nat.le_refl _),List.take_length]
   refine⟨hs,by omega,?_⟩
   unfold yA
   rw[qt (by omega),he,h.acc]
theorem Ord.len_le (h:Ord l k s O)(hk:Can.acc l k s≤32768):∀ n,n≤O.length→n≤tot l (O.take n)
 | 0,_=>Nat.zero_le _
 | n+1,hn=>by
  have ih:=h.len_le hk n (by omega)
  have e:O.take (n+1)=O.take n++[O.getD n 0]:=by
   rw[List.take_succ_eq_append_getElem (by omega),List.getD_eq_getElem?_getD,List.getElem?_eq_getElem (by omega)];rfl
  rw[e,JI]
  have:0<2 ^ (15-zg l (O.getD n 0)):=Nat.pow_pos (by omega)
  omega
theorem QY (hr:right l=true)(hs:s<l.length)(h0:zg l s≠0):yA l s+2 ^ (15-zg l s)≤32768:=by
 unfold yA
 have h1:=Zl l (zg l s) (s+1)
 rw[xu l (by omega) hs,if_pos rfl,← qt h0]at h1
 have:=(zD hr).2.2
 omega
theorem Ord.len_300 (h:Ord l k s O)(hr:right l=true):O.length≤32768:=by
 have h2:=Zl l k s
 have h3:=(zD hr).2.2
 have h1:=h.len_le (by omega) O.length (Nat.le_refl _)
 rw[List.take_length,← h.acc]at h1
 omega
end
end Go.Proofs.YtpmedpdjglcdpaaGreatDoor.Huf
namespace Go.Proofs.YtpmedpdjglcdpaaGreatDoor
open Go.RowKit Len Can Huf
def Huf.lenX (l:List UInt8)(s:Int):Nat:=if 0≤s∧s<(l.length:Int) then zg l s.toNat else 0
theorem Huf.lenX_at {l:List UInt8}{s:Nat}(h:s<l.length):lenX l (s:Int)=zg l s:=by
 unfold lenX
 rw[if_pos (by omega),Int.toNat_natCast]
theorem Huf.lenX_fine (l:List UInt8)(s:Int):(fine l s=true→lenX l s=zg l s.toNat∧lenX l s≠0)∧(fine l s=false→lenX l s=0):=by
 unfold fine lenX
 constructor
 ·intro h
  obtain⟨h1,h2,h3⟩:=of_decide_eq_true h
  rw[if_pos ⟨h1,h2⟩]
  exact⟨rfl,h3⟩
 ·intro h
  have h1:=of_decide_eq_false h
  split
  ·rename_i h2
   exact Classical.byContradiction fun h3=>h1 ⟨h2.1,h2.2,h3⟩
  ·rfl
theorem ZX {w:World}{B g c:Nat}{A:Option Addr}{l:List UInt8}(h:w.cell? ⟨g,0,none⟩=some (.slice A l.length c))(hb:Bytes w B A l.length l)(s:Int) :
  Calls Tryz.prog 172 #[.pointer (some ⟨g,0,none⟩),.int .i64 s] w fun e w'=>e=.returned (.int .i64 ((lenX l s:Nat):Int))∧w=w':=by
 by_cases h0:s<0
 ·have hx:lenX l s=0:=by unfold lenX;rw[if_neg (by omega)]
  rw[hx]
  clear hx
  go_enter Tryz.func172,Tryz.ntmps172
  go_wp2
  go_ret
  exact⟨rfl,rfl⟩
 obtain⟨k,rfl⟩:=Int.eq_ofNat_of_zero_le (show 0≤s by omega)
 by_cases hk:k<l.length
 ·have hkI:(k:Int)<(l.length:Int):=by omega
  rcases hb.2 with hn | ⟨b1,o1,rfl,hb1,hc1⟩
  ·omega
  have e1:w.cell? ⟨b1,o1+k,none⟩=some (.int .u8 ((zg l k:Nat):Int)):=hc1 k hk
  have hy:zg l k<256:=UInt8.toNat_lt _
  rw[lenX_at hk]
  clear hc1 hb
  generalize zg l k=y at *
  go_enter Tryz.func172,Tryz.ntmps172
  go_wp2
  go_ret
  exact⟨rfl,rfl⟩
 ·have hkI:¬ (k:Int)<(l.length:Int):=by omega
  have hx:lenX l (k:Int)=0:=by unfold lenX;rw[if_neg (by omega)]
  rw[hx]
  clear hx
  go_enter Tryz.func172,Tryz.ntmps172
  go_wp2
  go_ret
  exact⟨rfl,rfl⟩
def aei (w:World)(B g:Nat)(l:List UInt8):Prop :=
 ∃ A1 c1 A2 c2 A3 c3 A4 c4 O,w.cell? ⟨g,0,none⟩=some (.slice A1 l.length c1)∧w.cell? ⟨g,1,none⟩=some (.slice A2 l.length c2)∧w.cell? ⟨g,2,none⟩=some (.slice A3 O.length c3)∧w.cell? ⟨g,3,none⟩=some (.slice A4 O.length c4) ∧
  Bytes w B A1 l.length l∧H16At w B A2 l.length (zW l)∧IntsAt w B A3 O.length (O.map fun s:Nat=>(s:Int))∧H16At w B A4 O.length (starts l O)∧Ord l 16 0 O
end Go.Proofs.YtpmedpdjglcdpaaGreatDoor
namespace Go.Proofs.YtpmedpdjglcdpaaGreatDoor
open Go.RowKit Len Can Huf
theorem vK {w:World}{base size m:Nat}{E:TypeId}{A:Option Addr}{n c:Nat}{cs:List Value}(h:w.ownsRow base E size (.slice A n c) m cs):∀ b o,A=some ⟨b,o,none⟩→base≤b:=by
 intro b o hA
 rcases h.2 with ⟨hv,_⟩ | ⟨g,cap,cur,hv,hb,_⟩
 ·simp only[Value.slice.injEq]at hv
  rw[hv.1]at hA
  cases hA
 ·simp only[Value.slice.injEq]at hv
  rw[hv.1]at hA
  injection hA with hA
  injection hA with hA
  omega
theorem uY {w:World}{base base' size size' m m':Nat}{E E':TypeId}{v v':Value}{cs cs':List Value}(h:w.ownsRow base E size v m cs)(h':w.ownsRow base' E' size' v' m' cs')(hne:E≠E'):v.ownBlock=none∨v.ownBlock≠v'.ownBlock:=by
 rcases h.2 with ⟨rfl,_⟩ | ⟨g,cap,cur,rfl,hb,hg,_⟩
 ·exact .inl rfl
 rcases h'.2 with ⟨rfl,_⟩ | ⟨g',cap',cur',rfl,hb',hg',_⟩
 ·refine .inr ?_
  simp[Value.ownBlock]
 ·refine .inr fun e=>hne ?_
  have e2:g=g':=by simpa[Value.ownBlock] using e
  subst e2
  rw[hg]at hg'
  simp only[Option.some.injEq,Obj.cells.injEq]at hg'
  exact hg'.2.1
theorem abs {w:World}(ty:TypeId){base:Nat}{v:Value}{T:List Nat}(hown:OwnH w base v T){gx m c p:Nat}(hm:m=1)(hc:w.cell? ⟨gx,0,none⟩=some (.int .u16 (p:Int)))(hlen:T.length≤1000000)(hbase:base≤w.heap.size) :
  ∃ v' w',(Builtin.append_ #[147,147] ty #[v,.slice (some ⟨gx,0,none⟩) m c]).run Tryz.prog w=.ok v' w'∧OwnH w' base v' (T++[p])∧w.grownBy w' v.ownBlock:=by
 subst hm
 obtain⟨i,hi,hz,hs,hby⟩:=info_parts YU
 obtain⟨v',w',hr,h2,h3,_,_⟩:=run_append_own_at (P:=Tryz.prog) w base 147 ty 191 i _ 1 2 Tryz.underlying147 hi hz hs hby rfl (by omega) v T.length (T.map Yc) hown
  ⟨gx,0,none⟩ 1 c [Yc p] rfl (by
   intro j u hu
   match j,hu with
   | 0,hu =>
    have:(⟨gx,0,none⟩:Addr).add 0=⟨gx,0,none⟩:=rfl
    rw[this,hc]
    simpa[Yc] using hu
   | j+1,hu=>simp at hu) (by
   intro u hu
   simp at hu
   subst hu
   rfl) (by unfold maxLen;omega) (by omega) hbase
 refine⟨v',w',hr,?_,h3⟩
 unfold OwnH
 rw[List.length_append,List.map_append]
 exact h2
theorem QZ {ops:Array Oper}{o:Oper}{a:Act}{K:Act→World→Prop}{Q:Exit→Act→World→Prop}{E:Prop}{w:World}{base:Nat}{v:Value}{T:List Nat}(hgd:o.guard=none)(s x:Operand)
  (ho:o.op=.call { callee:=.builtin .append,args:=#[s,x],argTypes:=#[147,147] }) (hs:a.eval s=v) (hown:OwnH w base v T) {gx m c p:Nat} (hm:m=1) (hx:a.eval x=.slice (some ⟨gx,0,none⟩) m c) (hc:w.cell? ⟨gx,0,none⟩=some (.int .u16 (p:Int)))
  (hlen:T.length≤1000000) (hbase:base≤w.heap.size) (h:∀ v' w',OwnH w' base v' (T++[p])→w.grownBy w' v.ownBlock→K (a.put o.dst v') w') :
  if Region.wanted o (yielded ops a.tmps)=true then Oper.wp Tryz.prog o a w K Q else E:=by
 have hw:Region.wanted o (yielded ops a.tmps)=true:=by simp[Region.wanted,hgd]
 rw[if_pos hw]
 obtain⟨v',w',hr,h2,h3⟩:=abs (c:=c) o.type hown hm hc hlen hbase
 unfold Oper.wp execOp
 simp only[ho,resolve,invoke,builtin,Sem.run_bind,Sem.run_pure,Result.andThen_ok,List.map_toArray,List.map_cons,List.map_nil,hs,hx,hr]
 exact h v' w' h2 h3
structure TabS (w:World)(g:Nat)(A1:Option Addr)(c1:Nat)(A2:Option Addr)(c2:Nat)(v3 v4:Value)(l:List UInt8)(L:List Int)(T:List Nat):Prop where
 whole:Whole w g 216 #[.slice A1 l.length c1,.slice A2 l.length c2,v3,v4]
 syms:OwnI w (g+1) v3 L
 starts:OwnH w (g+1) v4 T
 lens:Bytes w g A1 l.length l
 words:H16At w g A2 l.length (zW l)
section
variable {w w':World}{g:Nat}{A1:Option Addr}{c1:Nat}{A2:Option Addr}{c2:Nat}{v3 v4 v3' v4':Value}{l:List UInt8}{L:List Int}{T:List Nat}
theorem TabS.ext (h:TabS w g A1 c1 A2 c2 v3 v4 l L T)(hE:Ext w w'):TabS w' g A1 c1 A2 c2 v3 v4 l L T :=
 ⟨h.whole.ext hE,h.syms.ext hE,h.starts.ext hE,h.lens.below (Below.mono hE (Nat.le_of_lt h.whole.lt)) (Nat.le_refl _),h.words.below (Below.mono hE (Nat.le_of_lt h.whole.lt)) (Nat.le_refl _)⟩
theorem TabS.appI (h:TabS w g A1 c1 A2 c2 v3 v4 l L T)(hG:w.grownBy w' v3.ownBlock):Whole w' g 216 #[.slice A1 l.length c1,.slice A2 l.length c2,v3,v4]∧OwnH w' (g+1) v4 T∧Below (g+1) w w'∧Bytes w' g A1 l.length l∧H16At w' g A2 l.length (zW l):=by
 have hlt:=h.syms.lt
 have hB:Below (g+1) w w':=Below.grown (Below.refl (g+1) w) hG h.whole.lt (fun k hk=>(hlt k hk).1)
 refine⟨h.whole.ownGrown hG (fun e=>by have:=hlt g e;omega),World.ownsRow.kept h.starts hG (uY h.starts h.syms (by decide)),hB,h.lens.below hB (by omega),h.words.below hB (by omega)⟩
theorem TabS.appH (h:TabS w g A1 c1 A2 c2 v3 v4 l L T)(hG:w.grownBy w' v4.ownBlock):Whole w' g 216 #[.slice A1 l.length c1,.slice A2 l.length c2,v3,v4]∧OwnI w' (g+1) v3 L∧Below (g+1) w w'∧Bytes w' g A1 l.length l∧H16At w' g A2 l.length (zW l):=by
 have hlt:=h.starts.lt
 have hB:Below (g+1) w w':=Below.grown (Below.refl (g+1) w) hG h.whole.lt (fun k hk=>(hlt k hk).1)
 refine⟨h.whole.ownGrown hG (fun e=>by have:=hlt g e;omega),World.ownsRow.kept h.syms hG (uY h.syms h.starts (by decide)),hB,h.lens.below hB (by omega),h.words.below hB (by omega)⟩
theorem j9 (hW:Whole w' g 216 #[.slice A1 l.length c1,.slice A2 l.length c2,v3',v4'])(hG:w.grownBy w' (some g))(h3:OwnI w (g+1) v3' L)(h4:OwnH w (g+1) v4' T)(h1:Bytes w g A1 l.length l)(h2:H16At w g A2 l.length (zW l))(hg:g≤w.heap.size) :
  TabS w' g A1 c1 A2 c2 v3' v4' l L T∧Below g w w':=by
 have hB:Below g w w':=Below.grown (Below.refl g w) hG hg (fun k hk=>by cases hk;omega)
 refine⟨⟨hW,World.ownsRow.kept h3 hG ?_,World.ownsRow.kept h4 hG ?_,h1.below hB (Nat.le_refl _),h2.below hB (Nat.le_refl _)⟩,hB⟩
 ·cases hv:v3'.ownBlock with
  | none=>simp
  | some k=>have:=h3.lt k hv;simp;omega
 ·cases hv:v4'.ownBlock with
  | none=>simp
  | some k=>have:=h4.lt k hv;simp;omega
end
end Go.Proofs.YtpmedpdjglcdpaaGreatDoor
namespace Go.Proofs.YtpmedpdjglcdpaaGreatDoor
open Go.RowKit Len Can Huf
section
variable {w w':World}{B n r:Nat}{A:Option Addr}
theorem Xf (hG:w.grownBy w' (some r)){b i:Nat}{v:Value}(hc:w.cell? ⟨b,i,none⟩=some v)(hb:r<b):w'.cell? ⟨b,i,none⟩=some v :=
 (World.cell?_of_block (a:=⟨b,i,none⟩) (hG.block b (World.block_lt_of_cell? w _ hc) (by simp;omega))).trans hc
theorem abt {l:List UInt8}(h:Bytes w B A n l)(hG:w.grownBy w' (some r))(hl:∀ b o,A=some ⟨b,o,none⟩→r<b):Bytes w' B A n l:=by
 refine⟨h.1,h.2.imp_right fun ⟨b,o,hA,hB,hc⟩=>⟨b,o,hA,hB,fun i hi=>Xf hG (hc i hi) (hl b o hA)⟩⟩
theorem aaL {L:List Nat}(h:H16At w B A n L)(hG:w.grownBy w' (some r))(hl:∀ b o,A=some ⟨b,o,none⟩→r<b):H16At w' B A n L:=by
 refine⟨h.1,h.2.imp_right fun ⟨b,o,hA,hB,hc⟩=>⟨b,o,hA,hB,fun i hi=>Xf hG (hc i hi) (hl b o hA)⟩⟩
theorem acV {L:List Int}(h:IntsAt w B A n L)(hG:w.grownBy w' (some r))(hl:∀ b o,A=some ⟨b,o,none⟩→r<b):IntsAt w' B A n L:=by
 refine⟨h.1,h.2.imp_right fun ⟨b,o,hA,hB,hc⟩=>⟨b,o,hA,hB,fun i hi=>Xf hG (hc i hi) (hl b o hA)⟩⟩
theorem VO {C:Nat}{L:List Int}(h:IntsAt w B A n L)(hC:B≤C):IntsAt w C A n L :=
 ⟨h.1,h.2.imp_right fun ⟨b,o,hA,hB,hc⟩=>⟨b,o,hA,Nat.lt_of_lt_of_le hB hC,hc⟩⟩
end
structure Tabs (w:World)(lo hi:Nat)(A1 A2 A3 A4:Option Addr)(l:List UInt8)(O:List Nat):Prop where
 lens:Bytes w hi A1 l.length l
 words:H16At w hi A2 l.length (zW l)
 syms:IntsAt w hi A3 O.length (O.map fun s:Nat=>(s:Int))
 starts:H16At w hi A4 O.length (starts l O)
 ord:Ord l 16 0 O
 low1:∀ b o,A1=some ⟨b,o,none⟩→lo≤b
 low2:∀ b o,A2=some ⟨b,o,none⟩→lo≤b
 low3:∀ b o,A3=some ⟨b,o,none⟩→lo≤b
 low4:∀ b o,A4=some ⟨b,o,none⟩→lo≤b
def aej (w:World)(l:List UInt8)(e:Ending)(w':World):Prop :=
 (right l=true→∃ A1 c1 A2 c2 A3 c3 A4 c4 O,e=.returned (.tuple #[.agg #[.slice A1 l.length c1,.slice A2 l.length c2,.slice A3 O.length c3,.slice A4 O.length c4],.int .i64 0])∧Tabs w' w.heap.size w'.heap.size A1 A2 A3 A4 l O) ∧
  (right l=false→e=.returned (.tuple #[.agg #[.slice none 0 0,.slice none 0 0,.slice none 0 0,.slice none 0 0],.int .i64 7]))∧Ext w w'
theorem xz:(Tryz.prog.info? 216).map (·.size)=some 4:=by kernel_rfl
theorem xT (A1:Option Addr)(n1 c1:Nat)(A2:Option Addr)(n2 c2:Nat)(A3:Option Addr)(n3 c3:Nat)(A4:Option Addr)(n4 c4:Nat):(#[.slice A1 n1 c1,.slice A2 n2 c2,.slice A3 n3 c3,.slice A4 n4 c4]:Array Value).all (·.oneCell')=true:=by
 simp
 exact⟨rfl,rfl,rfl,rfl⟩
set_option maxHeartbeats 4000000 in
set_option maxRecDepth 100000 in
theorem JK (A:Option Addr)(n c:Nat)(l:List UInt8)(w:World)(hc:n≤c)(h:Bytes w w.heap.size A n l):Calls Tryz.prog 197 #[.slice A n c] w (aej w l):=by
 have hl:=h.1
 subst hl
 have hE1:=zb w (.cells #[.slice none 0 0,.slice none 0 0,.slice none 0 0,.slice none 0 0] 216)
 have hR1:=Whole.new w 216 #[.slice none 0 0,.slice none 0 0,.slice none 0 0,.slice none 0 0]
 have C1:=abl A l.length c l _ (hE1.bytes h)
 cases hr:right l with
 | false =>
  have HR:=hide hr
  rw[show yH l=([],7) by unfold yH;rw[hr];rfl]at C1
  clear h hr
  go_enter Tryz.func197,Tryz.ntmps197
  go_wp2_with fail
  refine C1.mono ?_
  rintro e w2 ⟨v,rfl,hO,hE2⟩
  obtain⟨A2,c2,rfl,_⟩:=hO.reads
  have hR2:=hR1.ext hE2
  clear C1 hO
  go_wp2_with (refine zh rfl 216 (.tmp 2) (.tmp 16) rfl rfl rfl hR2 rfl xz (xT ..) ?_;intro w5 hR5 hG5 _)
  refine bodyPost_ret (zH rfl _ rfl rfl (run_loadVar_row _ _ _ _ _ _ _ hR5 Tryz.underlying216 rfl xz)) rfl ?_
  have hE:=hE1.trans hE2
  exact⟨(fun h=>by rw[HR.out]at h;cases h),fun _=>rfl,Below.grown hE hG5 hE.le (fun k hk=>by cases hk;exact Nat.le_refl _)⟩
 | true =>
  have HR:=hide hr
  have hl300:=(zD hr).1
  rw[show yH l=(zW l,0) by unfold yH;rw[hr];rfl]at C1
  have HB:=hide (hE1.bytes h)
  have HL:=hide (codesL_len l)
  clear h hr
  go_enter Tryz.func197,Tryz.ntmps197
  go_wp2_with fail
  refine C1.mono ?_
  rintro e w2 ⟨v,rfl,hO,hE2⟩
  obtain⟨A2,c2,rfl,h2c,h2m,h2⟩:=hO.reads
  have HLow2:=hide (vK hO)
  rw[HL.out]at h2 h2c
  have H2:=hide h2
  rw[HL.out]
  have hR2:=hR1.ext hE2
  have C2:=Ye A l.length c l w2 hc (by omega) (hE2.bytes HB.out)
  clear C1 hO h2
  go_wp2_with fail
  refine C2.mono ?_
  rintro e w3 ⟨v,rfl,hO3,hE3⟩
  obtain⟨A1,c1,rfl,h1c,h1m,h1⟩:=hO3.form
  have HLow1:=hide (vK hO3)
  have hR3:=hR2.ext hE3
  have h2w:=H2.out.below hE3 (Nat.le_refl _)
  have h2v:=h2w.mono hE3.le
  have hF3:=(hE1.trans hE2).trans hE3
  have hle1:w.heap.size<w2.heap.size:=by have:=hE2.le;rw[World.size_alloc]at this;omega
  have hle2:=hE2.le
  have hle3:=hE3.le
  have Hle:=hide (And.intro hle1 (And.intro hle2 hle3))
  have hlt3:w.heap.size<w3.heap.size:=by omega
  clear C2 hO3 hR1 hR2 hE1 hE2 hE3 h2w hle1 hle2 hle3
  obtain⟨g,hg⟩:∃ g,g=w3.heap.size:=⟨_,rfl⟩
  have hE4:=zb w3 (.cells #[.slice none 0 0,.slice none 0 0,.slice none 0 0,.slice none 0 0] 216)
  have hW4:=Whole.new w3 216 #[.slice none 0 0,.slice none 0 0,.slice none 0 0,.slice none 0 0]
  have hR4:=hR3.ext hE4
  have hF4:=hF3.trans hE4
  have h1':Bytes (w3.alloc (.cells #[.slice none 0 0,.slice none 0 0,.slice none 0 0,.slice none 0 0] 216)) g A1 l.length l:=by rw[hg];exact h1.below hE4 (Nat.le_refl _)
  have h2':H16At (w3.alloc (.cells #[.slice none 0 0,.slice none 0 0,.slice none 0 0,.slice none 0 0] 216)) g A2 l.length (zW l):=by rw[hg];exact h2v.below hE4 (Nat.le_refl _)
  have HG:=hide hg
  rw[← hg]at hW4
  have hgw:w.heap.size<g:=by omega
  clear h1 h2v hF3 hR3 hE4 hg hlt3
  go_wp2_with (refine zh rfl 216 (.tmp 6) (.tmp 21) rfl (by rw[HG.out];rfl) rfl hW4 rfl xz (xT ..) ?_;intro w5 hW5 hG5 hS5;clear hS5)
  rw[← HG.out]
  have hT5:=(j9 hW5 hG5 (OwnI.nil _ (g+1)) (OwnH.nil _ (g+1)) h1' h2' (by rw[World.size_alloc,HG.out];omega)).1
  have hF5:Ext w w5:=Below.grown hF4 hG5 hF4.le (fun k hk=>by cases hk;omega)
  have hR5:=hR4.grown hG5 (by omega)
  clear hW5 hG5 hW4 hR4 hF4 h1' h2'
  have H15:=hide (zD HR.out).2.1
  have HWl:=hide (show ∀ s,s<l.length→word l s<2 ^ 15 from fun s hs=>Yr HR.out hs)
  go_loopw [7] (fun x wr=>∃ k v3 v4 O,1≤k∧k≤16∧x=.int .i64 ((k:Nat):Int)∧TabS wr g A1 c1 A2 c2 v3 v4 l (O.map fun s:Nat=>(s:Int)) (starts l O)∧Ord l k 0 O∧Whole wr w.heap.size 216 #[.slice none 0 0,.slice none 0 0,.slice none 0 0,.slice none 0 0]∧Ext w wr) (fun x _=>17-(intOf x).toNat)
  case atStart=>exact⟨1,_,_,[],by omega,by omega,rfl,hT5,Ord.start,hR5,hF5⟩
  case round =>
   clear hT5 hF5 hR5
   obtain⟨k,v3,v4,O,hk1,hk16,rfl,hT,hO,hR,hE⟩:=hrel
   by_cases hk:k≤15
   ·have hkI:(k:Int)≤15:=by omega
    obtain⟨wa,rfl⟩:∃ W,W=wr:=⟨_,rfl⟩
    go_wp2_with fail
    go_loopw [28] (fun x wr=>∃ i v3 v4 O,i≤l.length∧x=.int .i64 ((i:Nat):Int)∧TabS wr g A1 c1 A2 c2 v3 v4 l (O.map fun s:Nat=>(s:Int)) (starts l O)∧Ord l k i O∧Whole wr w.heap.size 216 #[.slice none 0 0,.slice none 0 0,.slice none 0 0,.slice none 0 0]∧Ext w wr) (fun x _=>l.length-(intOf x).toNat)
    case atStart=>exact⟨0,v3,v4,O,by omega,rfl,hT,hO,hR,hE⟩
    case round =>
     clear hT hO hR hE
     obtain⟨i,v3,v4,O,hi,rfl,hT,hO,hR,hE⟩:=hrel
     by_cases hlt:i<l.length
     ·have hltI:(i:Int)<(l.length:Int):=by omega
      have CL:=ZX (hT.whole.at 0 rfl) hT.lens (i:Int)
      rw[lenX_at hlt]at CL
      by_cases hy:zg l i=k
      ·have hyb:((zg l i:Int)==(k:Int))=true:=by simp[hy]
       have hOn:=hO.put hk1 hlt hy
       have hlenO:=hO.len_300 HR.out
       have HOn:=hide hOn
       have hwl:=HWl.out i hlt
       have hst:yA l i=word l i*2 ^ (15-k):=by unfold yA;rw[hy]
       have hst2:yA l i<32768:=by
        have h1:=QY HR.out hlt (by omega)
        have h2:0<2 ^ (15-zg l i):=Nat.pow_pos (by omega)
        omega
       have HT:=hide hT
       have hEa:=zb wr (.cells #[.int .i64 (i:Int)] 3)
       have hTa:=hT.ext hEa
       have d2:wr.cell? ⟨g,2,none⟩=some v3:=hT.whole.at 2 rfl
       have hi1:(Tryz.prog.info? 48).map (·.size)=some 1:=by kernel_rfl
       have hlen1:(O.map fun s:Nat=>(s:Int)).length≤1000000:=by rw[List.length_map];omega
       have hb1:g+1≤wr.heap.size:=hT.whole.lt
       have hln:((O.map fun s:Nat=>(s:Int))++[(i:Int)]).length=O.length+1:=by simp
       rcases hT.words.2 with h0 | ⟨b2,o2,rfl,hb2,hc2⟩
       ·omega
       have e2:=hc2 i hlt
       rw[codesL_at hlt]at e2
       clear hT hO hOn hc2
       have HY:=hide hy
       clear hy
       generalize zg l i=y at *
       go_wp2_with fail
       refine CL.mono ?_
       rintro e w' ⟨rfl,rfl⟩
       clear CL
       go_wp2_with (first
        | (at_builtin;refine ub rfl (.tmp 36) (.tmp 38) rfl rfl (i:Int) hTa.syms rfl hlen1 hb1 ?_;intro v6 w6 hO6 hG6;obtain⟨hW6,hH6,hB6,hl6,hw6⟩:=hTa.appI hG6;obtain⟨A3,c3,rfl,h3c,h3⟩:=hO6.form;rw[hln]at hO6)
        | (refine yb (u:=.slice A3 (O.length+1) c3) rfl 48 (.tmp 40) (.tmp 39) rfl _ rfl rfl hW6 (by simp) hi1 rfl rfl rfl ?_;intro w7 hW7 hG7))
       obtain⟨hT7,hB7⟩:=j9 hW7 hG7 hO6 hH6 hl6 hw6 (Nat.le_of_lt hW6.lt)
       have hB67:Below g wr w7:=((Below.mono hEa (Nat.le_of_succ_le hb1)).trans (Below.mono hB6 (by omega))).trans hB7
       have hR7:=hR.below hB67 hgw
       have hF7:Ext w w7:=Below.trans hE (Below.mono hB67 (Nat.le_of_lt hgw))
       have e7:w7.cell? ⟨b2,o2+i,none⟩=some (.int .u16 ((word l i:Nat):Int)):=(hB67.cell (p:=⟨b2,o2+i,none⟩) hb2).trans e2
       have d3:w7.cell? ⟨g,3,none⟩=some v4:=hT7.whole.at 3 rfl
       have hsv:IntKind.u16.wrap ((word l i:Int)*2 ^ (15-k))=((yA l i:Nat):Int):=by
        have e:(word l i:Int)*2 ^ (15-k)=((yA l i:Nat):Int):=by rw[hst];simp
        rw[e]
        simp[IntKind.wrap,IntKind.bits,IntKind.signed]
        omega
       have hsh:IntKind.i64.wrap (15-(k:Int))=15-(k:Int):=IntWalk.i64_in _ (by omega)
       have hsh0:(0:Int)≤15-(k:Int):=by omega
       have hsh1:(15-(k:Int)).toNat=15-k:=by omega
       have hEb:=zb w7 (.cells #[.int .u16 ((yA l i:Nat):Int)] 191)
       have d3':(w7.alloc (.cells #[.int .u16 ((yA l i:Nat):Int)] 191)).cell? ⟨g,3,none⟩=some v4:=(hT7.whole.ext hEb).at 3 rfl
       have hT8:=hT7.ext hEb.drew
       have hc8:(w7.alloc (.cells #[.int .u16 ((yA l i:Nat):Int)] 191)).drew.cell? ⟨w7.heap.size,0,none⟩=some (.int .u16 ((yA l i:Nat):Int)):=zA w7 _ _ _ 0
       have hlen2:(starts l O).length≤1000000:=by rw[j8];omega
       have hb2':g+1≤(w7.alloc (.cells #[.int .u16 ((yA l i:Nat):Int)] 191)).drew.heap.size:=hT8.whole.lt
       have hi2:(Tryz.prog.info? 147).map (·.size)=some 1:=by kernel_rfl
       have HST:=hide (JJ l O i)
       have HMP:=hide (show (O++[i]).map (fun s:Nat=>(s:Int))=(O.map fun s:Nat=>(s:Int))++[(i:Int)] by simp)
       have hltI2:(0:Int)≤(i:Int):=by omega
       clear hln hst hst2 hTa hEa d2 hb1 e2 hW6 hH6 hB6 hl6 hw6 hO6 hG6 hW7 hG7 hB7 hR hE hlen1 hi1 h3
       generalize yA l i=p at *
       generalize word l i=x at *
       have HLn:=hide (show (starts l O++[p]).length=(starts l O).length+1 by simp)
       go_region_law (refine QZ rfl (.tmp 42) (.tmp 50) rfl rfl hT8.starts rfl rfl hc8 hlen2 hb2' ?_;intro v9 w9 hO9 hG9';have hG9:(w7.alloc (.cells #[.int .u16 (p:Int)] 191)).drew.grownBy w9 v4.ownBlock:=hG9';clear hG9';obtain⟨hW9,hS9,hB9,hl9,hw9⟩:=hT8.appH hG9;obtain⟨A4,c4,hv9,_⟩:=OwnH.form hO9;rw[HLn.out]at hv9;subst hv9;have e9:=hW9.at 3 rfl;have f9:=hW9.frozen 3)
       all_goals (
        have hG10:=zk w9 g 3 (.slice A4 ((starts l O).length+1) c4)
        have hW10:Whole (w9.setCell ⟨g,3,none⟩ (.slice A4 ((starts l O).length+1) c4)) g 216 #[.slice A1 l.length c1,.slice (some ⟨b2,o2,none⟩) l.length c2,.slice A3 (O.length+1) c3,.slice A4 ((starts l O).length+1) c4]:=hW9.set 3 _
        obtain⟨hT10,hB10⟩:=j9 hW10 hG10 hS9 hO9 hl9 hw9 (Nat.le_of_lt hW9.lt)
        have hB79:Below g w7 (w9.setCell ⟨g,3,none⟩ (.slice A4 ((starts l O).length+1) c4)):=((Below.mono hEb.drew (Nat.le_of_lt hT7.whole.lt)).trans (Below.mono hB9 (by omega))).trans hB10
        have hR10:=hR7.below hB79 hgw
        have hF10:Ext w (w9.setCell ⟨g,3,none⟩ (.slice A4 ((starts l O).length+1) c4)):=Below.trans hF7 (Below.mono hB79 (Nat.le_of_lt hgw))
        rw[← HMP.out,← HST.out]at hT10
        have HT10:=hide hT10
        clear hG10 hW10 hT10 hB10 hB79 hW9 hS9 hB9 hl9 hw9 hO9 hG9 e9 f9
        go_wp2
        go_roundw
        case rel=>exact⟨i+1,_,_,O++[i],by omega,by go_num,HT10.out,HOn.out,hR10,hF10⟩
        case measure=>simp[intOf];omega)
      ·have hyb:((zg l i:Int)==(k:Int))=false:=by rw[beq_eq_false_iff_ne];omega
       have HOn:=hide (hO.pass hk1 hlt hy)
       have HT:=hide hT
       clear hT hO hy
       generalize zg l i=y at *
       go_wp2_with fail
       refine CL.mono ?_
       rintro e w' ⟨rfl,rfl⟩
       clear CL
       go_wp2
       go_roundw
       case rel=>exact⟨i+1,v3,v4,O,by omega,by go_num,HT.out,HOn.out,hR,hE⟩
       case measure=>simp[intOf];omega
     ·obtain rfl:l.length=i:=by omega
      have HOn:=hide hO.turn
      have HT:=hide hT
      clear hT hO
      go_wp2
      go_roundw
      case rel=>exact⟨k+1,v3,v4,O,by omega,by omega,by go_num,HT.out,HOn.out,hR,hE⟩
      case measure=>simp[intOf];omega
   ·obtain rfl:k=16:=by omega
    obtain⟨A3,c3,rfl,h3c,h3⟩:=hT.syms.form
    obtain⟨A4,c4,rfl,h4c,h4m,h4⟩:=OwnH.reads hT.starts
    have HLow3:=hide (vK hT.syms)
    have HLow4:=hide (vK hT.starts)
    rw[List.length_map]at h3 h3c
    rw[j8]at h4 h4c
    have hW:=hT.whole
    rw[List.length_map,j8]at hW
    have HT:=hide (And.intro hT.lens hT.words)
    have H3:=hide h3
    have H4:=hide h4
    have HO:=hide hO
    clear hT h3 h4 hO
    go_wp2_with (first
     | (refine wpList_load_row rfl 216 (.tmp 6) rfl _ rfl _ _ _ _ hW Tryz.underlying216 rfl xz ?_)
     | (refine zh rfl 216 (.tmp 2) (.tmp 54) rfl rfl rfl hR rfl xz (xT ..) ?_;intro w5 hR5 hG5 hS5))
    refine bodyPost_ret (zH rfl _ rfl rfl (run_loadVar_row _ _ _ _ _ _ _ hR5 Tryz.underlying216 rfl xz)) rfl ?_
    obtain⟨k1,k2,k3⟩:=Hle.out
    have l1:∀ b o,A1=some ⟨b,o,none⟩→w.heap.size<b:=fun b o e=>by have:=HLow1.out b o e;omega
    have l2:∀ b o,A2=some ⟨b,o,none⟩→w.heap.size<b:=fun b o e=>by have:=HLow2.out b o e;rw[World.size_alloc]at this;omega
    have l3:∀ b o,A3=some ⟨b,o,none⟩→w.heap.size<b:=fun b o e=>by have:=HLow3.out b o e;omega
    have l4:∀ b o,A4=some ⟨b,o,none⟩→w.heap.size<b:=fun b o e=>by have:=HLow4.out b o e;omega
    have hgl:=hW.lt
    have hsz:=hG5.size
    refine⟨fun _=>⟨_,_,_,_,_,_,_,_,O,rfl,⟨(abt HT.out.1 hG5 l1).mono (by omega),(aaL HT.out.2 hG5 l2).mono (by omega),VO (acV H3.out hG5 l3) hsz,(aaL H4.out hG5 l4).mono hsz,HO.out,fun b o e=>Nat.le_of_lt (l1 b o e),fun b o e=>Nat.le_of_lt (l2 b o e),fun b o e=>Nat.le_of_lt (l3 b o e),fun b o e=>Nat.le_of_lt (l4 b o e)⟩⟩,(fun h=>by rw[HR.out]at h;cases h),Below.grown hE hG5 hE.le (fun k hk=>by cases hk;exact Nat.le_refl _)⟩
end Go.Proofs.YtpmedpdjglcdpaaGreatDoor
namespace Go.Proofs.YtpmedpdjglcdpaaGreatDoor
namespace Ef
open Num Bit
def Parts (k:Nat)(ids L H:List Int):Prop :=
 k≤14∧ids.length=H.length∧H.length≤L.length∧∀ i,i<ids.length→∃ h x:Nat,H.getD i 0=(h:Int)∧L.getD i 0=(x:Int)∧x<2 ^ k∧h≤1000000∧ids.getD i 0=((h*2 ^ k+x:Nat):Int)
theorem Parts.nil {k:Nat}(hk:k≤14)(L:List Int):Parts k [] L []:=⟨hk,rfl,by simp,fun i hi=>by simp at hi⟩
theorem Parts.more {k h x:Nat}{ids L H:List Int}(hP:Parts k ids L H)(hl:L.length=ids.length)(hx:x<2 ^ k)(hh:h≤1000000):Parts k (ids++[((h*2 ^ k+x:Nat):Int)]) (L++[(x:Int)]) (H++[(h:Int)]):=by
 obtain⟨hk,h1,h2,h3⟩:=hP
 refine⟨hk,by simp[h1],by simp;omega,fun i hi=>?_⟩
 rw[List.length_append,List.length_singleton]at hi
 rcases Nat.lt_or_ge i ids.length with hlt|hge
 ·rw[Zv ids _ hlt,Zv L _ (by omega),Zv H _ (by omega)]
  exact h3 i hlt
 ·obtain rfl:i=ids.length:=by omega
  refine⟨h,x,?_,?_,hx,hh,Zw _ _⟩
  ·rw[h1];exact Zw _ _
  ·rw[← hl];exact Zw _ _
theorem adM (x k:Nat):x / 2 ^ k*2 ^ k+x % 2 ^ k=x:=Nat.div_add_mod' x (2 ^ k)
theorem row_yes {bound:Int}{ids:List Int}(h:∀ i,i<ids.length→(if i=0 then -1 else ids.getD (i-1) 0)<ids.getD i 0∧ids.getD i 0<bound):row bound ids=true:=by
 have hge:∀ i,i<ids.length→0≤ids.getD i 0:=by
  intro i
  induction i with
  | zero=>intro hi;have:=(h 0 hi).1;simp at this;simp;omega
  | succ i ih =>
   intro hi
   have h1:=ih (by omega)
   have h2:=(h (i+1) hi).1
   rw[if_neg (by omega),Nat.add_sub_cancel]at h2
   omega
 refine decide_eq_true fun i hi=>⟨hge i hi,(h i hi).2,fun h0=>?_⟩
 have:=(h i hi).1
 rwa [if_neg (by omega)]at this
theorem row_no {bound:Int}{ids:List Int}{i:Nat}(hi:i<ids.length)(h:ids.getD i 0≤(if i=0 then -1 else ids.getD (i-1) 0)∨bound≤ids.getD i 0):row bound ids=false:=by
 refine decide_eq_false fun H=>?_
 have h1:=H i hi
 rcases h with h|h
 ·by_cases h0:i=0
  ·rw[if_pos h0]at h;omega
  ·rw[if_neg h0]at h
   have:=h1.2.2 (by omega)
   omega
 ·omega
end Ef
theorem JL (a b:Nat)(ha:a<4611686018427387904)(hb:b<4611686018427387904):bits .and .i64 (a:Int) (b:Int)=((a &&& b:Nat):Int):=by
 have hx:a &&& b<2 ^ 62:=Nat.and_lt_two_pow _ (by omega)
 have h1:(BitVec.ofInt 64 (a:Int)).toNat=a:=by rw[BitVec.ofInt_natCast,BitVec.toNat_ofNat];exact Nat.mod_eq_of_lt (by omega)
 have h2:(BitVec.ofInt 64 (b:Int)).toNat=b:=by rw[BitVec.ofInt_natCast,BitVec.toNat_ofNat];exact Nat.mod_eq_of_lt (by omega)
 show IntKind.i64.wrap ((BitVec.ofInt 64 (a:Int) &&& BitVec.ofInt 64 (b:Int)).toNat:Int)=_
 rw[BitVec.toNat_and,h1,h2,IntKind.wrap_i64]
 omega
end Go.Proofs.YtpmedpdjglcdpaaGreatDoor
namespace Go.Proofs.YtpmedpdjglcdpaaGreatDoor
open Go.RowKit Num Ef
theorem abu (bound:Int)(w:World):Calls Tryz.prog 135 #[.int .i64 bound] w fun e w'=>e=.returned (.bool (decide (0≤bound∧bound≤20000)))∧w=w':=by
 by_cases h0:0≤bound
 ·by_cases h1:bound≤20000
  ·have HD:=hide (show decide (0≤bound∧bound≤20000)=true from decide_eq_true ⟨h0,h1⟩)
   generalize decide (0≤bound∧bound≤20000)=res at *
   go_enter Tryz.func135,Tryz.ntmps135
   go_wp2
   go_ret
   exact⟨zf HD.out.symm,rfl⟩
  ·have HD:=hide (show decide (0≤bound∧bound≤20000)=false from decide_eq_false fun h=>h1 h.2)
   generalize decide (0≤bound∧bound≤20000)=res at *
   go_enter Tryz.func135,Tryz.ntmps135
   go_wp2
   go_ret
   exact⟨zf HD.out.symm,rfl⟩
 ·have HD:=hide (show decide (0≤bound∧bound≤20000)=false from decide_eq_false fun h=>h0 h.1)
  generalize decide (0≤bound∧bound≤20000)=res at *
  go_enter Tryz.func135,Tryz.ntmps135
  go_wp2
  go_ret
  exact⟨zf HD.out.symm,rfl⟩
def Ef.aheadOf (ids:List Int)(i:Nat):Int:=if i=0 then -1 else ids.getD (i-1) 0
theorem Ef.aheadOf_succ (ids:List Int)(i:Nat):aheadOf ids (i+1)=ids.getD i 0:=by unfold aheadOf;rw[if_neg (by omega),Nat.add_sub_cancel]
set_option maxHeartbeats 1000000 in
set_option maxRecDepth 100000 in
theorem JM (A:Option Addr)(n c:Nat)(ids:List Int)(bound:Int)(w:World)(h:IntsAt w w.heap.size A n ids)(hn:n≤1000000) :
  Calls Tryz.prog 136 #[.int .i64 bound,.slice A n c] w fun e w'=>e=.returned (.bool (row bound ids))∧w=w':=by
 have hl:=h.1
 have HA:=hide h
 have HYes:=hide (show (∀ i,i<n→aheadOf ids i<ids.getD i 0∧ids.getD i 0<bound)→row bound ids=true from fun h=>row_yes (by rw[hl];exact h))
 have HNo:=hide (show ∀ i,i<n→(ids.getD i 0≤aheadOf ids i∨bound≤ids.getD i 0)→row bound ids=false from fun i hi h=>row_no (by omega) h)
 generalize row bound ids=res at *
 clear h hl
 go_enter Tryz.func136,Tryz.ntmps136
 go_wp2
 go_loopw [10,5] (fun x y wr=>∃ i:Nat,i≤n∧x=.int .i64 (i:Int)∧y=.int .i64 (aheadOf ids i)∧(∀ j,j<i→aheadOf ids j<ids.getD j 0∧ids.getD j 0<bound)∧wr=w) (fun x _ _=>n-(intOf x).toNat)
 case atStart=>exact⟨0,by omega,rfl,rfl,fun j hj=>absurd hj (by omega),rfl⟩
 case round =>
  obtain⟨i,hi,rfl,rfl,hall,rfl⟩:=hrel
  have HAll:=hide hall
  clear hall
  by_cases hlt:i<n
  ·have hiI:(i:Int)<(n:Int):=by omega
   rcases HA.out.2 with hn0 | ⟨b1,o1,rfl,_,hc1⟩
   ·omega
   have e1:=hc1 i hlt
   have HNi:=hide (HNo.out i hlt)
   have HNext:=hide (show aheadOf ids i<ids.getD i 0→ids.getD i 0<bound→∀ j,j<i+1→aheadOf ids j<ids.getD j 0∧ids.getD j 0<bound from fun h1 h2 j hj=>by
    by_cases e:j=i
    ·rw[e];exact⟨h1,h2⟩
    ·exact HAll.out j (by omega))
   have HS:=hide (aheadOf_succ ids i)
   obtain⟨y,hy⟩:∃ y,y=ids.getD i 0:=⟨_,rfl⟩
   obtain⟨z,hz⟩:∃ z,z=aheadOf ids i:=⟨_,rfl⟩
   rw[← hy]at e1 HNi HNext HS
   rw[← hz]at HNi HNext ⊢
   clear hc1 hy hz
   by_cases g1:y≤z
   ·have HR:=hide (HNi.out (.inl g1))
    clear HNext HNi HS
    go_wp2
    go_ret
    exact⟨zf HR.out.symm,rfl⟩
   ·by_cases g2:bound≤y
    ·have HR:=hide (HNi.out (.inr g2))
     clear HNext HNi HS
     go_wp2
     go_ret
     exact⟨zf HR.out.symm,rfl⟩
    ·have hNx:=hide (HNext.out (by omega) (by omega))
     clear HNext HNi
     go_wp2
     go_roundw
     case rel=>exact⟨i+1,by omega,by go_num,by rw[HS.out],hNx.out,trivial⟩
     case measure=>simp[intOf];omega
  ·obtain rfl:n=i:=by omega
   have HN:=hide (HYes.out HAll.out)
   go_wp2
   go_ret
   exact⟨zf HN.out.symm,rfl⟩
theorem Xg {k:Nat}(h:k≤20):wrap64 (2 ^ k)=((2 ^ k:Nat):Int):=by
 have h1:(2:Nat) ^ k≤2 ^ 20:=Nat.pow_le_pow_right (by omega) h
 rw[show (2:Int) ^ k=((2 ^ k:Nat):Int) by simp]
 generalize 2 ^ k=v at *
 unfold wrap64
 omega
set_option maxHeartbeats 1000000 in
set_option maxRecDepth 100000 in
theorem abv (bd n:Nat)(w:World)(hb:bd≤20000)(hn:n≤20000):Calls Tryz.prog 162 #[.int .i64 (bd:Int),.int .i64 (n:Int)] w fun e w'=>e=.returned (.int .i64 ((widE (bd:Int) n:Nat):Int))∧Qt w w':=by
 by_cases hz:n=0
 ·subst hz
  have HW:=hide (show widE (bd:Int) 0=0 by unfold widE wid;rw[Nat.div_zero];rfl)
  rw[HW.out]
  go_enter Tryz.func162,Tryz.ntmps162
  go_wp2
  go_ret
  exact⟨rfl,Qt.refl _⟩
 have hzb:((n:Int)==0)=false:=by rw[beq_eq_false_iff_ne];omega
 have hnI:(n:Int)≠0:=by omega
 obtain⟨q,hq⟩:∃ q,q=bd / n:=⟨_,rfl⟩
 have hqI:(bd:Int).tdiv (n:Int)=(q:Int):=by rw[hq,Int.tdiv_eq_ediv_of_nonneg (by omega)];rfl
 have hq2:q≤20000:=by rw[hq];exact Nat.le_trans (Nat.div_le_self _ _) (by omega)
 have HWd:=hide (show widE (bd:Int) n=wid q by unfold widE;rw[hq,Int.toNat_natCast])
 rw[HWd.out]
 clear hq HWd
 go_enter Tryz.func162,Tryz.ntmps162
 go_wp2
 go_loopw [5] (fun x wr=>∃ j:Nat,x=.int .i64 (j:Int)∧(j=0∨2 ^ j≤q)∧j≤16∧Qt w wr) (fun x _=>20-(intOf x).toNat)
 case atStart=>exact⟨0,rfl,.inl rfl,by omega,Qt.refl _⟩
 case round =>
  obtain⟨j,rfl,hj,hj2,hQ⟩:=hrel
  have hwp:=Xg (k:=j+1) (by omega)
  obtain⟨p,hp⟩:∃ p,p=2 ^ (j+1):=⟨_,rfl⟩
  rw[← hp]at hwp
  by_cases hlt:p≤q
  ·have hI:(p:Int)≤(q:Int):=by omega
   have hd:decide ((p:Int)≤(q:Int))=true:=decide_eq_true hI
   have hj15:j<15:=by
    refine Decidable.byContradiction fun h=>?_
    have:2 ^ 15≤2 ^ (j+1):=Nat.pow_le_pow_right (by omega) (by omega)
    omega
   have HP:=hide hp
   have HJ:=hide hj
   clear hp hj
   go_wp2_with fail
   go_quiet (fail)
   go_wp2
   go_roundw
   case rel=>exact⟨j+1,by go_num,.inr (by rw[← HP.out];exact hlt),by omega,hQ.drewN _⟩
   case measure=>simp[intOf];omega
  ·have hI:¬ (p:Int)≤(q:Int):=by omega
   have hd:decide ((p:Int)≤(q:Int))=false:=decide_eq_false hI
   have HW:=hide (wid_is (q:=q) (j:=j) hj (by rw[← hp];omega))
   clear hp hj
   go_wp2_with fail
   go_quiet (fail)
   go_wp2
   go_ret
   exact⟨zi (by rw[HW.out]),hQ.drewN _⟩
end Go.Proofs.YtpmedpdjglcdpaaGreatDoor
namespace Go.Proofs.YtpmedpdjglcdpaaGreatDoor
open Go.RowKit Num Ef
structure PartsV (w:World)(B:Nat)(k:Nat)(A1:Option Addr)(n1:Nat)(A2:Option Addr)(n2:Nat)(ids:List Int):Prop where
 ex:∃ L H,IntsAt w B A1 n1 L∧IntsAt w B A2 n2 H∧Ef.Parts k ids L H
def Q0 (k:Nat)(A1:Option Addr)(n1 c1:Nat)(A2:Option Addr)(n2 c2:Nat):Value:=.agg #[.int .i64 (k:Int),.slice A1 n1 c1,.slice A2 n2 c2]
end Go.Proofs.YtpmedpdjglcdpaaGreatDoor
namespace Go.Proofs.YtpmedpdjglcdpaaGreatDoor
open Go.RowKit Num Ef
def acW (w:World):Prop:=∀ (bound:Int) (ids:List Int) (A:Option Addr) (n c:Nat) (W:World),Ext w W→vI bound→n≤c→c≤maxLen→n≤20000→IntsAt W W.heap.size A n ids→Calls Tryz.prog 104 #[.int .i64 bound,.slice A n c] W (zB W (writeE bound ids).1 (writeE bound ids).2)
end Go.Proofs.YtpmedpdjglcdpaaGreatDoor
