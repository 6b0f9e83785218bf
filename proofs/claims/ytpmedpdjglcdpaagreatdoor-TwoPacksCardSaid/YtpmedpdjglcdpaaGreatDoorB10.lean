/- Contracts of the row of bits: widen, add, number, zerosFrom. Contracts of the writer: Put, Unary, Len, Bytes. Contracts of the document's writer: Put, Unary. Contracts of the document's cursor: New, Left, Num, Int, Take. The contract of the -/
import Derived.Test.YtpmedpdjglcdpaaGreatDoorB02
import Derived.Test.YtpmedpdjglcdpaaGreatDoorB06
import Derived.Test.YtpmedpdjglcdpaaGreatDoorB09
import Derived.Deep.RegionLaw
import Derived.Deep.RegionWith
import Derived.Deep.QuietTactic
import Derived.BigQuiet
namespace Go.Proofs.YtpmedpdjglcdpaaGreatDoor
section
open Go.RowKit
def WRowX (t:TypeId)(R:List Value)(w:World)(base g:Nat)(v:Value)(l:List UInt8)(n:Nat):Prop :=
 Whole w g t (v::.int .i64 n::R).toArray∧OwnB w base v l∧v.ownBlock≠some g∧base≤g
theorem Yt (a b:Value)(R:List Value):(a::b::R).toArray[0]?=some a:=by simp
theorem Uw (a b:Value)(R:List Value):(a::b::R).toArray[1]?=some b:=by simp
theorem adG (a b:Value)(R:List Value):1<(a::b::R).toArray.size:=by
 rw[List.size_toArray,List.length_cons,List.length_cons]
 omega
theorem acG (a b u:Value)(R:List Value):(a::b::R).toArray.setIfInBounds 1 u=(a::u::R).toArray:=by simp
theorem Whole.set0 {w:World}{g:Nat}{t:TypeId}{a:Value}{R:List Value}(h:Whole w g t (a::R).toArray)(u:Value):Whole (w.setCell ⟨g,0,none⟩ u) g t (u::R).toArray:=by
 have:=h.set 0 u
 simpa using this
theorem WRowX.bound {t:TypeId}{R:List Value}{w:World}{base g n:Nat}{v:Value}{l:List UInt8}(h:WRowX t R w base g v l n):base≤w.heap.size:=Nat.le_trans h.2.2.2 (Nat.le_of_lt h.1.lt)
def Ux (t:TypeId)(R:List Value)(w:World)(base g:Nat)(v:Value)(l:List UInt8)(n:Nat)(w':World):Prop:=∃ v',WRowX t R w' base g v' l n∧NewOb w v.ownBlock v'.ownBlock∧Mod w w' g v.ownBlock
theorem adH (x:Int)(h0:0≤x)(h1:x≤9223372036854775807):IntKind.i64.wrap x=x:=by rw[IntKind.wrap_i64];omega
set_option maxHeartbeats 1000000 in
theorem VG {t:TypeId}{R:List Value}{w:World}{base g S:Nat}{v:Value}{l:List UInt8}(n:Nat)(h:WRowX t R w base g v l S)(hn:S+n≤1000000000)(hl:l.length≤(S+n+7) / 8) :
  Calls Tryz.prog 175 #[.pointer (some ⟨g,0,none⟩),.int .i64 n] w fun e w'=>e=.returned (.tuple #[])∧Ux t R w base g v (l++List.replicate ((S+n+7) / 8-l.length) 0) (S+n) w':=by
 obtain⟨hW,hO,hne,hb⟩:=h
 have c1:w.cell? ⟨g,1,none⟩=some (.int .i64 S):=hW.at 1 (Uw ..)
 obtain⟨k,hk⟩:∃ k,k=(S+n+7) / 8-l.length:=⟨_,rfl⟩
 have hd:IntKind.i64.wrap (((S:Int)+n+8-1) / 8-l.length)=(k:Int):=by rw[adH _ (by omega) (by omega)];omega
 rw[← hk]
 obtain⟨A,c,rfl,_,_,_⟩:=hO.form
 have hfit:l.length+k≤140737488355328:=by omega
 clear hk
 go_enter Tryz.func175,Tryz.ntmps175
 go_wp2_with (refine yb rfl 3 (.tmp 12) (.tmp 10) rfl (.slice A l.length c::.int .i64 ((S:Int)+n)::R).toArray rfl rfl hW (adG ..) (by kernel_rfl) rfl rfl (acG ..) ?_;intro w1 hW1 hG1;have d0:w1.cell? ⟨g,0,none⟩=some (.slice A l.length c):=hW1.at 0 (Yt ..);have d1:w1.cell? ⟨g,1,none⟩=some (.int .i64 ((S:Int)+n)):=hW1.at 1 (Uw ..);have f0:=hW1.frozen 0;clear c1)
 have hO1:OwnB w1.drew base (.slice A l.length c) l:=((Mod.ofRow (ob:=none) hG1).own hO hne (by simp[Classical.em])).ext (Ext.refl _).drew
 have hB1:=Nat.le_trans (Nat.le_trans hb (Nat.le_of_lt hW.lt)) hG1.size
 have hW1':Whole w1.drew g t (.slice A l.length c::.int .i64 ((S:Int)+n)::R).toArray:=hW1
 go_region_law (refine Ug rfl (.tmp 24) (.tmp 31) rfl rfl hO1 k rfl hfit hB1 ?_;intro v2 w2 hO2 hG2' hN2';have hG2:w1.drew.grownBy w2 (Value.slice A l.length c).ownBlock:=hG2';have hN2:NewOb w1 (Value.slice A l.length c).ownBlock v2.ownBlock:=hN2';clear hG2' hN2';have hW2:=hW1'.ownGrown hG2 hne;obtain⟨A2,c2,hv2,_,_,_⟩:=hO2.form;simp only[List.length_append,List.length_replicate]at hv2;subst hv2;have e0:=hW2.at 0 (Yt ..);have f2:=hW2.frozen 0)
 all_goals (
  go_end0
  refine⟨rfl,_,⟨hW2.set0 _,hO2.far (hN2.ne (g:=g) hW1.lt hne) 0 _,hN2.ne (g:=g) hW1.lt hne,hb⟩,?_,?_⟩
  ·exact (NewOb.same w _).trans hG1.size hN2
  ·exact ((Mod.ofRow (ob:=(Value.slice A l.length c).ownBlock) hG1).trans ((Mod.ofExt (Ext.refl w1).drew).trans (Mod.ofOwn hG2) (.inl rfl)) (.inl rfl)).trans (Mod.ofRow (ob:=(Value.slice A l.length c).ownBlock) (zk w2 g 0 _)) (.inl rfl))
theorem adI (c:UInt8)(x s t:Nat):bits .or .u8 (c.toNat:Int) ((x:Int) / 2 ^ s % 256*2 ^ t % 256)=((Bit.mix c x s t).toNat:Int):=by
 have e:((x:Int) / 2 ^ s % 256*2 ^ t % 256)=(((x >>> s) % 256*2 ^ t % 256:Nat):Int):=by
  simp only[Nat.shiftRight_eq_div_pow,Int.natCast_emod,Int.natCast_mul,Int.natCast_ediv,Int.natCast_pow]
  rfl
 have hc:=c.toNat_lt
 rw[e,u8_or_nat _ _ hc (Nat.mod_lt _ (by decide))]
 unfold Bit.mix
 rw[UInt8.toNat_or,UInt8.toNat_ofNat']
set_option maxHeartbeats 1000000 in
theorem aaG {t:TypeId}{R:List Value}{w:World}{base g S:Nat}{v:Value}{l:List UInt8}{B:List Bool}(x n:Nat)(h:WRowX t R w base g v l S)(hP:Bit.Packs l B)(hS:B.length=S)(hx:x<2 ^ n)(hn:n≤64)(hfit:S≤900000000) :
  Calls Tryz.prog 173 #[.pointer (some ⟨g,0,none⟩),.int .u64 x,.int .i64 n] w fun e w'=>e=.returned (.tuple #[])∧∃ l',Bit.Packs l' (B++Bit.num x n)∧Ux t R w base g v l' (S+n) w':=by
 have hW:=h.1
 have c1:w.cell? ⟨g,1,none⟩=some (.int .i64 S):=hW.at 1 (Uw ..)
 have C1:=VG n h (by omega) (by have:=hP.1;omega)
 have hA0:=Bit.Adds.start hP x n
 rw[hS]at hA0
 go_enter Tryz.func173,Tryz.ntmps173
 go_wp2_with (go_at_call 175;refine C1.mono ?_;rintro e w1 ⟨rfl,hT1⟩)
 go_loopw [2,6] (fun m p wr=>∃ (q:Nat) (l1:List UInt8),m=.int .i64 ((S+n-q:Nat):Int)∧p=.int .i64 q∧q≤S+n∧Bit.Adds B x n l1 q∧Ux t R w base g v l1 (S+n) wr) (fun m _ _=>(intOf m).toNat)
 case atStart=>exact⟨S,_,by simp,rfl,by omega,hA0,hT1⟩
 case round =>
  obtain⟨q,l1,rfl,rfl,hq,hA,hT⟩:=hrel
  by_cases hlt:q<S+n
  ·obtain⟨v1,⟨hW1,hO1,hne1,hb1⟩,hN1,hM1⟩:=hT
   have hl1:=hA.1
   obtain⟨gb,cb,rfl,hgb,hcb⟩:=hO1.formG (by omega)
   have hcell:=hO1.cell (i:=q / 8) (by omega)
   obtain⟨hc,hf⟩:=hcell
   have d0:wr.cell? ⟨g,0,none⟩=some (.slice (some ⟨gb,0,none⟩) l1.length cb):=hW1.at 0 (Yt ..)
   obtain⟨m,hm⟩:∃ m,m=S+n-q:=⟨_,rfl⟩
   obtain⟨k,hk⟩:∃ k,k=min m (8-q % 8):=⟨_,rfl⟩
   have hmin:(if (8-(q:Int) % 8)<(m:Int) then (8-(q:Int) % 8) else (m:Int))=(k:Int):=by split<;>omega
   rw[← hm]
   have hm64:m≤64:=by have:=hA.2.1;omega
   have hm0:0<m:=by omega
   have hkm:k≤m:=by omega
   have hk8:k≤8:=by omega
   have hqL:(q:Int) / 8<(l1.length:Int):=by omega
   have Hm:=hide hm
   have Hk:=hide hk
   clear hm hk
   go_wp2_with (refine vq rfl (.tmp 21) (.tmp 22) rfl rfl rfl hmin ?_)
   have hor:=adI (l1.getD (q / 8) 0) x (m-k) (8-q % 8-k)
   have HB:=hide (hA.step hx (k:=k) (by rw[hS,← Hm.out];exact Hk.out) (by omega))
   rw[hS,show S+n-q-k=m-k by rw[← Hm.out]]at HB
   generalize Bit.mix (l1.getD (q / 8) 0) x (m-k) (8-q % 8-k)=y at *
   simp only[List.getD_eq_getElem?_getD]at hor
   have HL:=hide hl1
   clear hl1
   go_region
   go_wp2
   go_roundw
   case rel =>
    refine⟨q+k,l1.set (q / 8) y,?_,by go_num,by have:=Hm.out;omega,HB.out,_,⟨hW1.far ?_ _ _,?_,hne1,hb1⟩,?_,?_⟩
    ·rw[show ((m:Int)-k)=((S+n-(q+k):Nat):Int) by have:=Hm.out;omega]
    ·exact fun e=>hne1 (by simp[Value.ownBlock,e])
    ·exact (hO1.set (q / 8) y).ext (Ext.refl _).drew
    ·exact hN1
    ·exact hM1.trans ((Mod.ofOwn (ob:=some gb) (zk wr gb _ _)).trans (Mod.drew _) (.inl rfl)) hN1
   case measure=>simp[intOf];omega
  ·obtain rfl:q=S+n:=by omega
   have HB:=hide (Bit.Adds.done (B:=B) (x:=x) (n:=n) (l:=l1) (by rw[hS];exact hA))
   go_wp2
   go_end0
   exact⟨rfl,l1,HB.out,hT⟩
end
section
open Go.RowKit
namespace Bit
def fits (x:Nat)(n:Int):Bool:=decide (0≤n∧n≤64∧x<2 ^ n.toNat)
def putBits (x:Nat)(n:Int):List Bool:=if fits x n then num x n.toNat else []
def putErr (x:Nat)(n:Int):Int:=if fits x n then 0 else 13
def runs (n:Int):Bool:=decide (0≤n∧n≤100000)
def unBits (n:Nat):List Bool:=List.replicate n false++[true]
def unaryBits (n:Int):List Bool:=if runs n then unBits n.toNat else []
def unaryErr (n:Int):Int:=if runs n then 0 else 13
theorem put_bad {x:Nat}{n:Int}(h:fits x n=false):putErr x n=13∧putBits x n=[]:=by simp[putErr,putBits,h]
theorem put_good {x:Nat}{n:Int}(h:fits x n=true):putErr x n=0∧putBits x n=num x n.toNat:=by simp[putErr,putBits,h]
theorem unary_bad {n:Int}(h:runs n=false):unaryErr n=13∧unaryBits n=[]:=by simp[unaryErr,unaryBits,h]
theorem unary_good {n:Int}(h:runs n=true):unaryErr n=0∧unaryBits n=unBits n.toNat:=by simp[unaryErr,unaryBits,h]
theorem num_one:num 1 1=[true]:=by decide
end Bit
def WrtX (t:TypeId)(R:List Value)(w:World)(base g:Nat)(ob:Option Nat)(B:List Bool):Prop:=∃ v l,WRowX t R w base g v l B.length∧Bit.Packs l B∧v.ownBlock=ob
abbrev Wrt (w:World)(base g:Nat)(ob:Option Nat)(B:List Bool):Prop:=WrtX 168 [] w base g ob B
def aaH (t:TypeId)(R:List Value)(w:World)(base g:Nat)(ob:Option Nat)(B:List Bool)(err:Int)(e:Ending)(w':World):Prop :=
 e=.returned (.int .i64 err)∧∃ ob',WrtX t R w' base g ob' B∧NewOb w ob ob'∧Mod w w' g ob
theorem WrtX.bound {t:TypeId}{R:List Value}{w:World}{base g:Nat}{ob:Option Nat}{B:List Bool}(h:WrtX t R w base g ob B):base≤w.heap.size:=by obtain⟨v,l,h,_⟩:=h;exact h.bound
theorem WrtX.lt {t:TypeId}{R:List Value}{w:World}{base g:Nat}{ob:Option Nat}{B:List Bool}(h:WrtX t R w base g ob B):g<w.heap.size:=by obtain⟨v,l,h,_⟩:=h;exact h.1.lt
theorem WrtX.le {t:TypeId}{R:List Value}{w:World}{base g:Nat}{ob:Option Nat}{B:List Bool}(h:WrtX t R w base g ob B):base≤g:=by obtain⟨v,l,h,_⟩:=h;exact h.2.2.2
theorem WrtX.ne {t:TypeId}{R:List Value}{w:World}{base g:Nat}{ob:Option Nat}{B:List Bool}(h:WrtX t R w base g ob B):ob≠some g:=by obtain⟨v,l,h,_,rfl⟩:=h;exact h.2.2.1
theorem WrtX.ob {t:TypeId}{R:List Value}{w:World}{base g:Nat}{ob:Option Nat}{B:List Bool}(h:WrtX t R w base g ob B):∀ k,ob=some k→base≤k∧k<w.heap.size:=by obtain⟨v,l,h,_,rfl⟩:=h;exact h.2.1.lt
theorem WrtX.ext {t:TypeId}{R:List Value}{w w':World}{base g:Nat}{ob:Option Nat}{B:List Bool}(h:WrtX t R w base g ob B)(hE:Ext w w'):WrtX t R w' base g ob B:=by
 obtain⟨v,l,⟨hW,hO,hne,hb⟩,hP,ho⟩:=h
 exact⟨v,l,⟨hW.ext hE,hO.ext hE,hne,hb⟩,hP,ho⟩
set_option maxHeartbeats 1000000 in
theorem jq {t:TypeId}{R:List Value}{w:World}{base g:Nat}{ob:Option Nat}{B:List Bool}(h:WrtX t R w base g ob B)(x:Nat)(n:Int)(hfit:B.length≤900000000) :
  Calls Tryz.prog 157 #[.pointer (some ⟨g,0,none⟩),.int .u64 x,.int .i64 n] w (aaH t R w base g ob (B++Bit.putBits x n) (Bit.putErr x n)):=by
 by_cases hbad:Bit.fits x n=false
 ·have HE:=hide (Bit.put_bad hbad)
  have HF:=hide h
  by_cases h0:n<0
  ·go_enter Tryz.func157,Tryz.ntmps157
   go_wp2
   go_ret
   refine⟨zi HE.out.1.symm,ob,by rw[HE.out.2,List.append_nil];exact HF.out,.inl rfl,Mod.refl _ _ _⟩
  ·by_cases h1:64<n
   ·go_enter Tryz.func157,Tryz.ntmps157
    go_wp2
    go_ret
    refine⟨zi HE.out.1.symm,ob,by rw[HE.out.2,List.append_nil];exact HF.out,.inl rfl,Mod.refl _ _ _⟩
   ·obtain⟨k,rfl⟩:=Int.eq_ofNat_of_zero_le (show 0≤n by omega)
    have hk:k≤64:=by omega
    have hx:2 ^ k≤x:=by
     rcases Nat.lt_or_ge x (2 ^ k) with h|h
     ·exfalso
      have:Bit.fits x (k:Int)=true:=decide_eq_true ⟨by omega,by omega,by simpa using h⟩
      rw[this]at hbad;cases hbad
     ·exact h
    have hx0:((x:Int) / 2 ^ k != 0)=true:=by
     have h1:0<x / 2 ^ k:=Nat.div_pos hx (Nat.two_pow_pos k)
     have e:(x:Int) / 2 ^ k=((x / 2 ^ k:Nat):Int):=by simp only[Int.natCast_ediv,Int.natCast_pow];rfl
     rw[e];simp;omega
    clear hx hbad
    go_enter Tryz.func157,Tryz.ntmps157
    go_wp2
    go_ret
    refine⟨zi HE.out.1.symm,ob,by rw[HE.out.2,List.append_nil];exact HF.out,.inl rfl,Mod.refl _ _ _⟩
 ·have hgood:Bit.fits x n=true:=by simpa using hbad
  have HE:=hide (Bit.put_good hgood)
  obtain⟨h0,h1,hx⟩:=of_decide_eq_true hgood
  obtain⟨k,rfl⟩:=Int.eq_ofNat_of_zero_le h0
  have hk:k≤64:=by omega
  have hx':x<2 ^ k:=by simpa using hx
  have hx0:((x:Int) / 2 ^ k != 0)=false:=by
   have e:(x:Int) / 2 ^ k=((x / 2 ^ k:Nat):Int):=by simp only[Int.natCast_ediv,Int.natCast_pow];rfl
   rw[e,Nat.div_eq_of_lt hx'];rfl
  obtain⟨v,l,hR,hP,rfl⟩:=h
  have C:=aaG x k hR hP rfl hx' hk (by omega)
  clear hx hx' hbad hgood
  go_enter Tryz.func157,Tryz.ntmps157
  go_wp2_with (go_at_call 173;refine C.mono ?_;rintro e w2 ⟨rfl,l2,hP2,v2,hR2,hN2,hM2⟩)
  go_ret
  refine⟨zi HE.out.1.symm,v2.ownBlock,⟨v2,l2,?_,?_,rfl⟩,hN2,hM2⟩
  ·rw[HE.out.2,List.length_append,Bit.num_length];exact hR2
  ·rw[HE.out.2];exact hP2
set_option maxHeartbeats 1000000 in
theorem abm {t:TypeId}{R:List Value}{w:World}{base g:Nat}{ob:Option Nat}{B:List Bool}(h:WrtX t R w base g ob B)(n:Int)(hfit:B.length≤800000000) :
  Calls Tryz.prog 163 #[.pointer (some ⟨g,0,none⟩),.int .i64 n] w (aaH t R w base g ob (B++Bit.unaryBits n) (Bit.unaryErr n)):=by
 by_cases hbad:Bit.runs n=false
 ·have HE:=hide (Bit.unary_bad hbad)
  have HF:=hide h
  by_cases h0:n<0
  ·go_enter Tryz.func163,Tryz.ntmps163
   go_wp2
   go_ret
   refine⟨zi HE.out.1.symm,ob,by rw[HE.out.2,List.append_nil];exact HF.out,.inl rfl,Mod.refl _ _ _⟩
  ·have h1:100000<n:=by
    have:=of_decide_eq_false hbad
    omega
   go_enter Tryz.func163,Tryz.ntmps163
   go_wp2
   go_ret
   refine⟨zi HE.out.1.symm,ob,by rw[HE.out.2,List.append_nil];exact HF.out,.inl rfl,Mod.refl _ _ _⟩
 ·have hgood:Bit.runs n=true:=by simpa using hbad
  have HE:=hide (Bit.unary_good hgood)
  obtain⟨h0,h1⟩:=of_decide_eq_true hgood
  obtain⟨k,rfl⟩:=Int.eq_ofNat_of_zero_le h0
  have hk:k≤100000:=by omega
  obtain⟨v,l,hR,hP,rfl⟩:=h
  have hpl:=hP.1
  have C:=VG k hR (by omega) (by omega)
  have hP1:=hide (hP.widen k)
  have hlen:(B++List.replicate k false).length=B.length+k:=by simp
  have HLen:=hide hlen
  clear hbad hgood hP hlen hpl
  go_enter Tryz.func163,Tryz.ntmps163
  go_wp2_with (go_at_call 175;refine C.mono ?_;rintro e w2 ⟨rfl,v2,hR2,hN2,hM2⟩)
  refine (aaG 1 1 hR2 hP1.out HLen.out (by omega) (by omega) (by omega)).mono ?_
  rintro e w3 ⟨rfl,l3,hP3,v3,hR3,hN3,hM3⟩
  go_wp2
  go_ret
  have hbits:B++Bit.unaryBits ((k:Nat):Int)=B++List.replicate k false++Bit.num 1 1:=by
   rw[HE.out.2,Bit.num_one];simp[Bit.unBits]
  refine⟨zi HE.out.1.symm,v3.ownBlock,⟨v3,l3,?_,?_,rfl⟩,hN2.trans hM2.size hN3,hM2.trans hM3 hN2⟩
  ·rw[hbits,List.length_append,HLen.out];exact hR3
  ·rw[hbits];exact hP3
theorem Y5 {t:TypeId}{R:List Value}{w:World}{base g:Nat}{ob:Option Nat}{B:List Bool}(h:WrtX t R w base g ob B)(hB:B.length≤1000000000) :
  Calls Tryz.prog 128 #[.pointer (some ⟨g,0,none⟩)] w fun e w'=>∃ l,Bit.Packs l B∧zt w l e w':=by
 obtain⟨v,l,hR,hP,rfl⟩:=h
 obtain⟨hW,hO,_,_⟩:=hR
 obtain⟨A,c,rfl,hc,_,hb⟩:=hO.form
 have c0:w.cell? ⟨g,0,none⟩=some (.slice A l.length c):=hW.at 0 (Yt ..)
 have hl:=hP.1
 have C:=Yd A l.length c l w hc (by omega) hb
 have HP:=hide hP
 clear hl hP
 go_enter Tryz.func128,Tryz.ntmps128
 go_wp2_with (go_at_call 159;refine C.mono ?_;rintro e w2 ⟨v2,rfl,hown2,hE2⟩)
 go_ret
 exact⟨l,HP.out,v2,rfl,hown2,hE2⟩
end
section
open Go.RowKit
def yX (b:Bool):UInt8:=if b then 1 else 0
theorem JA (b:Bool):((yX b).toNat:Int)=(b.toNat:Int):=by cases b<;>rfl
def RefW (w:World)(base g:Nat)(ob:Option Nat)(L:List UInt8):Prop:=∃ v,Whole w g 121 #[v]∧OwnB w base v L∧v.ownBlock≠some g∧base≤g∧v.ownBlock=ob
def jr (w:World)(base g:Nat)(ob:Option Nat)(L:List UInt8)(err:Int)(e:Ending)(w':World):Prop :=
 e=.returned (.int .i64 err)∧∃ ob',RefW w' base g ob' L∧NewOb w ob ob'∧Mod w w' g ob
section
variable {w w':World}{base g:Nat}{ob:Option Nat}{L:List UInt8}
theorem RefW.lt (h:RefW w base g ob L):g<w.heap.size:=by obtain⟨v,h,_⟩:=h;exact h.lt
theorem RefW.le (h:RefW w base g ob L):base≤g:=by obtain⟨v,_,_,_,h,_⟩:=h;exact h
theorem RefW.own (h:RefW w base g ob L):∀ k,ob=some k→base≤k∧k<w.heap.size:=by obtain⟨v,_,h,_,_,rfl⟩:=h;exact h.lt
theorem RefW.ext (h:RefW w base g ob L)(hE:Ext w w'):RefW w' base g ob L:=by
 obtain⟨v,hW,hO,r⟩:=h
 exact⟨v,hW.ext hE,hO.ext hE,r⟩
end
theorem RefW.put {w w1 w2 w3:World}{base g:Nat}{v v2:Value}{L:List UInt8}{x:UInt8}(hW:Whole w g 121 #[v])(hne:v.ownBlock≠some g)(hb:base≤g)(hE:Ext w w1)
  (hO2:OwnB w2 base v2 (L++[x])) (hG:w1.grownBy w2 v.ownBlock) (hN:NewOb w1 v.ownBlock v2.ownBlock) (hW3:Whole w3 g 121 #[v2]) (hG3:w2.grownBy w3 (some g)) :
  ∃ ob',RefW w3 base g ob' (L++[x])∧NewOb w v.ownBlock ob'∧Mod w w3 g v.ownBlock:=by
 have hne2:v2.ownBlock≠some g:=hN.ne (Nat.lt_of_lt_of_le hW.lt hE.le) hne
 refine⟨v2.ownBlock,⟨v2,hW3,(Mod.ofRow (ob:=none) hG3).own hO2 hne2 (by cases v2.ownBlock<;>simp),hne2,hb,rfl⟩,(NewOb.same w _).trans hE.le hN,?_⟩
 exact ((Mod.ofExt hE).trans (Mod.ofOwn hG) (.inl rfl)).trans (Mod.ofRow (ob:=v.ownBlock) hG3) (.inl rfl)
set_option maxHeartbeats 1000000 in
theorem Uy {w:World}{base g:Nat}{ob:Option Nat}{L:List UInt8}(h:RefW w base g ob L)(n:Int)(hL:L.length≤900000000) :
  Calls Tryz.prog 94 #[.pointer (some ⟨g,0,none⟩),.int .i64 n] w (jr w base g ob (L++(Bit.unaryBits n).map yX) (Bit.unaryErr n)):=by
 by_cases hbad:Bit.runs n=false
 ·have HE:=hide (Bit.unary_bad hbad)
  have HF:=hide h
  by_cases h0:n<0
  ·go_enter Tryz.func94,Tryz.ntmps94
   go_wp2
   go_ret
   exact⟨zi HE.out.1.symm,ob,by rw[HE.out.2,List.map_nil,List.append_nil];exact HF.out,.inl rfl,Mod.refl _ _ _⟩
  ·have h1:100000<n:=by
    have:=of_decide_eq_false hbad
    omega
   go_enter Tryz.func94,Tryz.ntmps94
   go_wp2
   go_ret
   exact⟨zi HE.out.1.symm,ob,by rw[HE.out.2,List.map_nil,List.append_nil];exact HF.out,.inl rfl,Mod.refl _ _ _⟩
 ·have hgood:Bit.runs n=true:=by simpa using hbad
  have HE:=hide (Bit.unary_good hgood)
  obtain⟨h0,h1⟩:=of_decide_eq_true hgood
  obtain⟨k,rfl⟩:=Int.eq_ofNat_of_zero_le h0
  have hk:k≤100000:=by omega
  clear hbad hgood
  go_enter Tryz.func94,Tryz.ntmps94
  go_wp2
  go_loopw [5] (fun i wr=>∃ (j:Nat) (ob1:Option Nat),j≤k∧i=.int .i64 (j:Int)∧RefW wr base g ob1 (L++List.replicate j 0)∧NewOb w ob ob1∧Mod w wr g ob) (fun i _=>k-(intOf i).toNat)
  case atStart=>exact⟨0,ob,by omega,rfl,by simpa using h,.inl rfl,Mod.refl _ _ _⟩
  case round =>
   obtain⟨j,ob1,hj,rfl,⟨v,hW,hO,hne,hb,rfl⟩,hN,hM⟩:=hrel
   have hlen:(L++List.replicate j (0:UInt8)).length=L.length+j:=by simp
   have hfit:(L++List.replicate j (0:UInt8)).length+1≤140737488355328:=by omega
   have HK:=hide h1
   clear hlen
   have d0:wr.cell? ⟨g,0,none⟩=some v:=hW.at 0 rfl
   have hO1:=hO.ext (zb wr (.cells #[.int .u8 0] 5))
   have hO1':=hO.ext (zb wr (.cells #[.int .u8 1] 5))
   have hb1:=zr wr [0] #[.int .u8 0] 5 (0,0) rfl 1 rfl
   have hb1':=zr wr [1] #[.int .u8 1] 5 (0,0) rfl 1 rfl
   have hB1:base≤(wr.alloc (.cells #[.int .u8 0] 5)).heap.size:=by have:=hW.lt;simp;omega
   have hB1':base≤(wr.alloc (.cells #[.int .u8 1] 5)).heap.size:=by have:=hW.lt;simp;omega
   have hi:(Tryz.prog.info? 29).map (·.size)=some 1:=by kernel_rfl
   by_cases hlt:j<k
   ·go_wp2_with (first
     | (at_builtin;refine ze rfl (.tmp 21) (.tmp 22) rfl rfl hO1 rfl hb1 hfit hB1 ?_;intro v2 w2 hO2 hG2 hN2;have hW2:=(hW.ext (zb wr (.cells #[.int .u8 0] 5))).ownGrown hG2 hne;obtain⟨A2,n2,c2,hv2,_,_,_⟩:=hO2.form';subst hv2)
     | (refine yb rfl 29 (.tmp 25) (.tmp 23) rfl #[.slice A2 n2 c2] rfl rfl hW2 (by simp) hi rfl rfl rfl ?_;intro w3 hW3 hG3))
    go_roundw
    case rel =>
     obtain⟨ob2,hR2,hN3,hM3⟩:=RefW.put hW hne hb (zb wr (.cells #[.int .u8 0] 5)) hO2 hG2 hN2 hW3 hG3
     refine⟨j+1,ob2,by omega,by go_num,?_,hN.trans hM.size hN3,hM.trans hM3 hN⟩
     rw[List.append_assoc,show List.replicate j (0:UInt8)++[0]=List.replicate (j+1) 0 from List.replicate_succ'.symm]at hR2
     exact hR2
    case measure=>simp[intOf];omega
   ·obtain rfl:j=k:=by omega
    go_wp2_with (first
     | (at_builtin;refine ze rfl (.tmp 30) (.tmp 31) rfl rfl hO1' rfl hb1' hfit hB1' ?_;intro v2 w2 hO2 hG2 hN2;have hW2:=(hW.ext (zb wr (.cells #[.int .u8 1] 5))).ownGrown hG2 hne;obtain⟨A2,n2,c2,hv2,_,_,_⟩:=hO2.form';subst hv2)
     | (refine yb rfl 29 (.tmp 34) (.tmp 32) rfl #[.slice A2 n2 c2] rfl rfl hW2 (by simp) hi rfl rfl rfl ?_;intro w3 hW3 hG3))
    go_ret
    obtain⟨ob2,hR2,hN3,hM3⟩:=RefW.put hW hne hb (zb wr (.cells #[.int .u8 1] 5)) hO2 hG2 hN2 hW3 hG3
    refine⟨zi HE.out.1.symm,ob2,?_,hN.trans hM.size hN3,hM.trans hM3 hN⟩
    rw[List.append_assoc]at hR2
    rw[HE.out.2]
    simpa[Bit.unBits,yX] using hR2
end
section
open Go.RowKit
def Bit.lows (x k:Nat):List UInt8:=(List.range k).map fun i=>yX (x.testBit i)
theorem Bit.lows_len (x k:Nat):(Bit.lows x k).length=k:=by simp[Bit.lows]
theorem Bit.lows_succ (x k:Nat):Bit.lows x (k+1)=Bit.lows x k++[yX (x.testBit k)]:=by simp[Bit.lows,List.range_succ]
theorem Bit.lows_get (x k i:Nat)(h:i<k):(Bit.lows x k).getD i 0=yX (x.testBit i):=by simp[Bit.lows,List.getD_eq_getElem?_getD,h]
theorem Bit.num_take (x n j:Nat)(hj:j<n):((Bit.num x n).take (n-(j+1))).map yX++[yX (x.testBit j)]=((Bit.num x n).take (n-j)).map yX:=by
 have hl:n-(j+1)<(Bit.num x n).length:=by rw[Bit.num_length];omega
 have hg:(Bit.num x n)[n-(j+1)]=x.testBit j:=by
  have h1:=Bit.num_getD x n (n-(j+1)) (by omega)
  rw[List.getD_eq_getElem?_getD,List.getElem?_eq_getElem hl,show n-1-(n-(j+1))=j by omega]at h1
  exact h1
 rw[show n-j=n-(j+1)+1 by omega,List.take_succ_eq_append_getElem hl,List.map_append,hg]
 rfl
theorem Bit.bit_int (y:Nat)(b:Bool)(h:b.toNat=y % 2):(y:Int) % 2=((yX b).toNat:Int):=by rw[JA];omega
set_option maxHeartbeats 2000000 in
theorem xI {w:World}{base g:Nat}{ob:Option Nat}{L:List UInt8}(h:RefW w base g ob L)(x:Nat)(n:Int)(hx64:x≤18446744073709551615)(hL:L.length≤900000000) :
  Calls Tryz.prog 93 #[.pointer (some ⟨g,0,none⟩),.int .u64 x,.int .i64 n] w (jr w base g ob (L++(Bit.putBits x n).map yX) (Bit.putErr x n)):=by
 by_cases hr:0≤n∧n≤64
 ·obtain⟨h0,h1⟩:=hr
  obtain⟨k,rfl⟩:=Int.eq_ofNat_of_zero_le h0
  have hk:k≤64:=by omega
  have HF:=hide h
  go_enter Tryz.func93,Tryz.ntmps93
  go_wp2
  go_loopw [1,7,8] (fun y v i wr=>∃ j:Nat,j≤k∧i=.int .i64 (j:Int)∧y=.int .u64 ((x / 2 ^ j:Nat):Int)∧OwnB wr w.heap.size v (Bit.lows x j)∧Ext w wr) (fun _ _ i _=>k-(intOf i).toNat)
  case atStart=>exact⟨0,by omega,rfl,by simp,OwnB.nil _ _,Ext.refl _⟩
  case round =>
   obtain⟨j,hj,rfl,rfl,hO,hE⟩:=hrel
   by_cases hlt:j<k
   ·have hbit:=Bit.bit_int (x / 2 ^ j) (x.testBit j) (Bit.testBit_toNat x j)
    have hdiv:=hide (show ((x / 2 ^ j:Nat):Int) / 2=((x / 2 ^ (j+1):Nat):Int) by rw[Nat.pow_succ,← Nat.div_div_eq_div_mul];omega)
    have hy:x / 2 ^ j≤18446744073709551615:=Nat.le_trans (Nat.div_le_self _ _) hx64
    have HL:=hide (Bit.lows_succ x j)
    have hlen:=Bit.lows_len x j
    have hfit:(Bit.lows x j).length+1≤140737488355328:=by omega
    generalize Bit.lows x j=Lo at *
    generalize x / 2 ^ j=y at *
    generalize yX (x.testBit j)=bt at *
    have hbt:=bt.toNat_lt
    have hb1:=zr wr [bt] #[.int .u8 (bt.toNat:Int)] 5 (0,0) rfl 1 rfl
    have hO1:=hO.ext (zb wr (.cells #[.int .u8 (bt.toNat:Int)] 5))
    have hE1:=hE.trans (zb wr (.cells #[.int .u8 (bt.toNat:Int)] 5))
    have hB1:=hE1.le
    clear hlen
    go_wp2_with (at_builtin;refine ze rfl (.tmp 21) (.tmp 25) rfl rfl hO1 rfl hb1 hfit hB1 ?_;intro v2 w2 hO2 hG2 hN2)
    go_roundw
    case rel =>
     refine⟨j+1,by omega,by go_num,by rw[← hdiv.out],by rw[HL.out];exact hO2,hO1.below hE1 hG2 hB1⟩
    case measure=>simp[intOf];omega
   ·obtain rfl:j=k:=by omega
    by_cases hz:x / 2 ^ j=0
    ·have hxl:x<2 ^ j:=by
      rcases Nat.div_eq_zero_iff.1 hz with h|h
      ·exact absurd h (Nat.ne_of_gt (Nat.two_pow_pos j))
      ·exact h
     have HP:=hide (Bit.put_good (x:=x) (n:=(j:Int)) (decide_eq_true ⟨by omega,by omega,by simpa using hxl⟩))
     have hz':(((x / 2 ^ j:Nat):Int) != 0)=false:=by rw[hz];rfl
     have HO:=hide hO
     clear hz hxl
     generalize x / 2 ^ j=y at *
     generalize hwz:wr=wz at *
     clear hwz
     go_wp2
     have hR:=HF.out.ext hE
     go_loopw [9] (fun i ww=>∃ (m:Nat) (ob1:Option Nat),m≤j∧i=.int .i64 ((m:Int)-1)∧RefW ww base g ob1 (L++((Bit.num x j).take (j-m)).map yX)∧NewOb wz ob ob1∧Mod wz ww g ob) (fun i _=>((intOf i)+1).toNat)
     case atStart=>exact⟨j,ob,by omega,rfl,by simpa using hR,.inl rfl,Mod.refl _ _ _⟩
     case round =>
      obtain⟨m,ob1,hm,rfl,⟨v,hW,hOw,hne,hb,rfl⟩,hN,hM⟩:=hrel
      rcases m with _|m
      ·have hneg:¬ (0≤((0:Nat):Int)-1):=by omega
       go_wp2
       go_ret
       refine⟨zi HP.out.1.symm,v.ownBlock,?_,(NewOb.same w ob).trans hE.le hN,(Mod.ofExt hE).trans hM (.inl rfl)⟩
       rw[HP.out.2,Int.toNat_natCast]
       rw[Nat.sub_zero,List.take_of_length_le (by rw[Bit.num_length];exact Nat.le_refl _)]at *
       exact⟨v,hW,hOw,hne,hb,rfl⟩
      ·rw[show (((m+1:Nat):Int)-1)=(m:Int) by omega]
       have hO1:=HO.out
       have hgl:=HF.out.lt
       have hob:=HF.out.own
       obtain⟨gl,cl,hu,hbl,hcl⟩:=hO1.formG (by rw[Bit.lows_len];omega)
       rw[Bit.lows_len]at hu
       subst hu
       have hOl:=hM.own hO1 (by simp[Value.ownBlock];omega) (.inr (fun e=>by have:=(hob gl e.symm).2;omega))
       have hcell:=(hOl.cell (i:=m) (by rw[Bit.lows_len];omega)).1
       rw[Bit.lows_get x j m (by omega)]at hcell
       have HT:=hide (Bit.num_take x j m (by omega))
       have hlen:(L++List.map yX (List.take (j-(m+1)) (Bit.num x j))).length≤900000064:=by
        rw[List.length_append,List.length_map,List.length_take];omega
       have hfit:(L++List.map yX (List.take (j-(m+1)) (Bit.num x j))).length+1≤140737488355328:=by omega
       generalize yX (x.testBit m)=bt at *
       generalize hLL:L++List.map yX (List.take (j-(m+1)) (Bit.num x j))=LL at *
       have HLL:=hide hLL
       have hbt:=bt.toNat_lt
       have d0:wr.cell? ⟨g,0,none⟩=some v:=hW.at 0 rfl
       have hEa:=zb wr (.cells #[.int .u8 (bt.toNat:Int)] 5)
       have d0':(wr.alloc (.cells #[.int .u8 (bt.toNat:Int)] 5)).cell? ⟨g,0,none⟩=some v:=(hW.ext hEa).at 0 rfl
       have hb1:=(Ext.refl (wr.alloc (.cells #[.int .u8 (bt.toNat:Int)] 5))).drew.bytes (zr wr [bt] #[.int .u8 (bt.toNat:Int)] 5 (0,0) rfl 1 rfl)
       have hEw:Ext wr (wr.alloc (.cells #[.int .u8 (bt.toNat:Int)] 5)).drew:=hEa.drew
       have hOx:=hOw.ext hEw
       have hB1:base≤(wr.alloc (.cells #[.int .u8 (bt.toNat:Int)] 5)).drew.heap.size:=Nat.le_trans (Nat.le_trans hb (Nat.le_of_lt hW.lt)) hEw.le
       have hi:(Tryz.prog.info? 29).map (·.size)=some 1:=by kernel_rfl
       have hmj:(m:Int)<(j:Int):=by omega
       clear hLL hlen hO1 hO hOl hob
       go_wp2
       go_region_law (refine QD rfl (.tmp 41) (.tmp 46) rfl rfl hOx rfl hb1 hfit hB1 ?_;intro v2 w2 hO2 hG2' hN2';have hG2:(wr.alloc (.cells #[.int .u8 (bt.toNat:Int)] 5)).drew.grownBy w2 v.ownBlock:=hG2';have hN2:NewOb (wr.alloc (.cells #[.int .u8 (bt.toNat:Int)] 5)).drew v.ownBlock v2.ownBlock:=hN2';clear hG2' hN2';have hW2:=(hW.ext hEw).ownGrown hG2 hne;obtain⟨A2,n2,c2,hv2,_,_,_⟩:=hO2.form';subst hv2;have e0:=hW2.at 0 rfl;have f2:=hW2.frozen 0)
       all_goals (
        have hG3:=zk w2 g 0 (.slice A2 n2 c2)
        have hW3:Whole (w2.setCell ⟨g,0,none⟩ (.slice A2 n2 c2)) g 121 #[.slice A2 n2 c2]:=hW2.set 0 _
        obtain⟨ob2,hR2,hN3,hM3⟩:=RefW.put hW hne hb hEw hO2 hG2 hN2 hW3 hG3
        rw[← HLL.out,List.append_assoc,HT.out]at hR2
        have HR:=hide (show RefW (w2.setCell ⟨g,0,none⟩ (.slice A2 n2 c2)) base g ob2 (L++((Bit.num x j).take (j-m)).map yX)∧NewOb wz ob ob2∧Mod wz (w2.setCell ⟨g,0,none⟩ (.slice A2 n2 c2)) g ob from ⟨hR2,hN.trans hM.size hN3,hM.trans hM3 hN⟩)
        clear hR2 hN3 hM3 hW3 hG3
        go_wp2
        go_roundw
        case rel=>exact⟨m,ob2,by omega,rfl,HR.out⟩
        case measure=>simp[intOf])
    ·have hxl:¬ x<2 ^ j:=fun h=>hz (Nat.div_eq_of_lt h)
     have HP:=hide (Bit.put_bad (x:=x) (n:=(j:Int)) (decide_eq_false (fun h=>hxl (by simpa using h.2.2))))
     have hz':(((x / 2 ^ j:Nat):Int) != 0)=true:=by simpa using fun h=>hz (by exact_mod_cast h)
     clear hz hxl
     generalize x / 2 ^ j=y at *
     go_wp2
     go_ret
     exact⟨zi HP.out.1.symm,ob,by rw[HP.out.2,List.map_nil,List.append_nil];exact HF.out.ext hE,.inl rfl,Mod.ofExt hE⟩
 ·have HP:=hide (Bit.put_bad (x:=x) (n:=n) (decide_eq_false (fun h=>hr ⟨h.1,h.2.1⟩)))
  have HF:=hide h
  by_cases h0:n<0
  ·clear hr
   go_enter Tryz.func93,Tryz.ntmps93
   go_wp2
   go_ret
   exact⟨zi HP.out.1.symm,ob,by rw[HP.out.2,List.map_nil,List.append_nil];exact HF.out,.inl rfl,Mod.refl _ _ _⟩
  ·have h1:64<n:=by omega
   clear hr
   go_enter Tryz.func93,Tryz.ntmps93
   go_wp2
   go_ret
   exact⟨zi HP.out.1.symm,ob,by rw[HP.out.2,List.map_nil,List.append_nil];exact HF.out,.inl rfl,Mod.refl _ _ _⟩
end
section
open Go.RowKit
theorem Bit.val_bit (f:Nat→Bool):∀ n j,j<n→(Bit.val f n).testBit (n-1-j)=f j
 | n+1,j,h=>by
  rw[Bit.val]
  have hb:(2*Bit.val f n+(f n).toNat) / 2=Bit.val f n:=by cases f n<;>simp<;>omega
  rcases Nat.lt_or_ge j n with hj|hj
  ·rw[show n+1-1-j=(n-1-j)+1 by omega,Nat.testBit_succ,hb]
   exact Bit.val_bit f n j hj
  ·obtain rfl:j=n:=by omega
   rw[show j+1-1-j=0 by omega,Nat.testBit_zero]
   cases f j<;>simp
def Bit.Front (l:List UInt8)(B:List Bool)(m:Nat):Prop:=l.length=m∧∀ t,t<8*m→Bit.at_ l t=B.getD t false
theorem Bit.Front.next {l:List UInt8}{B:List Bool}{m:Nat}(h:Bit.Front l B m):Bit.Front (l++[UInt8.ofNat (Bit.val (fun t=>B.getD (8*m+t) false) 8)]) B (m+1):=by
 obtain⟨hl,hb⟩:=h
 refine⟨by simp[hl],fun t ht=>?_⟩
 have hv:=Bit.val_lt (fun t=>B.getD (8*m+t) false) 8
 have h2:=Bit.val_bit (fun t=>B.getD (8*m+t) false) 8 (t % 8) (by omega)
 generalize Bit.val (fun t=>B.getD (8*m+t) false) 8=X at *
 unfold Bit.at_
 rcases Nat.lt_or_ge t (8*m) with h8|h8
 ·have h1:=hb t h8
  unfold Bit.at_ at h1
  rw[← h1]
  simp only[List.getD_eq_getElem?_getD]
  rw[List.getElem?_append_left (by omega)]
 ·have h1:t / 8=m:=by omega
  simp only[List.getD_eq_getElem?_getD]
  rw[h1,List.getElem?_append_right (by omega),hl,Nat.sub_self]
  simp only[List.getElem?_cons_zero,Option.getD_some]
  rw[UInt8.toNat_ofNat',Nat.mod_eq_of_lt hv]
  rw[show (8:Nat)-1-t % 8=7-t % 8 by omega]at h2
  rw[h2,show 8*m+t % 8=t by omega,List.getD_eq_getElem?_getD]
theorem Bit.Front.packs {l:List UInt8}{B:List Bool}{m:Nat}(h:Bit.Front l B m)(hm:m=(B.length+7) / 8):Bit.Packs l B:=⟨h.1.trans hm,fun i hi=>h.2 i (by rw[← h.1];exact hi)⟩
set_option maxHeartbeats 2000000 in
theorem qL {w:World}{base g:Nat}{ob:Option Nat}{B:List Bool}(h:RefW w base g ob (B.map yX))(hB:B.length≤900000000) :
  Calls Tryz.prog 95 #[.pointer (some ⟨g,0,none⟩)] w fun e w'=>∃ l,Bit.Packs l B∧zt w l e w':=by
 obtain⟨v,hW,hO,hne,hb,rfl⟩:=h
 obtain⟨A,c,rfl,hc,_,hbb⟩:=hO.form
 have hLn:=hide (show (B.map yX).length=B.length by simp)
 rw[hLn.out]at hW hbb hc
 have HW:=hide hW
 have HBB:=hide hbb
 clear hbb hO hne
 go_enter Tryz.func95,Tryz.ntmps95
 go_wp2
 go_loopw [3,4,5,6] (fun o i _ _ wr=>∃ (m:Nat) (l:List UInt8),m≤(B.length+7) / 8∧i=.int .i64 ((8*m:Nat):Int)∧OwnB wr w.heap.size o l∧Bit.Front l B m∧Ext w wr) (fun _ i _ _ _=>B.length+8-(intOf i).toNat)
 case atStart=>exact⟨0,[],by omega,rfl,OwnB.nil _ _,⟨rfl,fun t ht=>by omega⟩,Ext.refl _⟩
 case round =>
  obtain⟨m,l,hm,rfl,hOl,hF,hE⟩:=hrel
  have d0:wr.cell? ⟨g,0,none⟩=some (.slice A B.length c):=(HW.out.ext hE).at 0 rfl
  have HF:=hide hF
  by_cases hlt:8*m<B.length
  ·have HC:=hide ((hE.bytes HBB.out).2)
   go_wp2
   go_loop [5,6] (fun x k=>∃ d:Nat,d≤8∧x=.int .i64 (Bit.val (fun t=>B.getD (8*m+t) false) d:Nat)∧k=.int .i64 ((8*m+d:Nat):Int)) (fun _ k=>8*m+8-(intOf k).toNat)
   case atStart=>exact⟨0,by omega,rfl,by simp⟩
   case round =>
    obtain⟨d,hd,rfl,rfl⟩:=hrel
    by_cases hd8:d<8
    ·have hv:=Bit.val_lt (fun t=>B.getD (8*m+t) false) d
     have hv8:Bit.val (fun t=>B.getD (8*m+t) false) d<256:=Nat.lt_of_lt_of_le hv (show 2 ^ d≤2 ^ 8 from Nat.pow_le_pow_right (by omega) (by omega))
     have HV:=hide (show Bit.val (fun t=>B.getD (8*m+t) false) (d+1)=2*Bit.val (fun t=>B.getD (8*m+t) false) d+(B.getD (8*m+d) false).toNat from rfl)
     clear hv
     generalize Bit.val (fun t=>B.getD (8*m+t) false) d=X at *
     by_cases hk:8*m+d<B.length
     ·have hcell:=HC.out
      rcases hcell with h0 | ⟨b,off,rfl,hbl,hcell⟩
      ·omega
      have hc1:=hcell (8*m+d) hk
      have hget:(B.map yX).getD (8*m+d) 0=yX (B.getD (8*m+d) false):=by simp[List.getD_eq_getElem?_getD,hk]
      rw[hget,JA]at hc1
      clear hcell hget
      generalize B.getD (8*m+d) false=bt at *
      have hbt:bt.toNat≤1:=by cases bt<;>simp
      go_wp2
      go_round
      case rel=>exact⟨d+1,by omega,by rw[HV.out];go_num,by go_num⟩
      case measure=>simp[intOf];omega
     ·have hfar:=Bit.getD_far B (8*m+d) (by omega)
      rw[hfar]at HV
      go_wp2
      go_round
      case rel=>exact⟨d+1,by omega,by rw[HV.out];simp,by go_num⟩
      case measure=>simp[intOf];omega
    ·obtain rfl:d=8:=by omega
     have HN:=hide (HF.out.next)
     have hv:=Bit.val_lt (fun t=>B.getD (8*m+t) false) 8
     generalize Bit.val (fun t=>B.getD (8*m+t) false) 8=X at *
     obtain⟨bt,rfl⟩:∃ bt:UInt8,X=bt.toNat:=⟨UInt8.ofNat X,by rw[UInt8.toNat_ofNat'];omega⟩
     rw[UInt8.ofNat_toNat]at HN
     have hbt:=bt.toNat_lt
     have hl:=HF.out.1
     have hfit:l.length+1≤140737488355328:=by omega
     have hb1:=zr wr [bt] #[.int .u8 (bt.toNat:Int)] 5 (0,0) rfl 1 rfl
     have hO1:=hOl.ext (zb wr (.cells #[.int .u8 (bt.toNat:Int)] 5))
     have hE1:=hE.trans (zb wr (.cells #[.int .u8 (bt.toNat:Int)] 5))
     have hB1:=hE1.le
     clear hl hF
     go_wp2_with (at_builtin;refine ze rfl (.tmp 42) (.tmp 45) rfl rfl hO1 rfl hb1 hfit hB1 ?_;intro v2 w2 hO2 hG2 hN2)
     go_roundw
     case rel=>exact⟨m+1,_,by omega,by go_num,hO2,HN.out,hO1.below hE1 hG2 hB1⟩
     case measure=>simp[intOf];omega
  ·have hP:=hide (HF.out.packs (by omega))
   go_wp2
   go_ret
   exact⟨l,hP.out,_,rfl,hOl,hE⟩
end
end Go.Proofs.YtpmedpdjglcdpaaGreatDoor
