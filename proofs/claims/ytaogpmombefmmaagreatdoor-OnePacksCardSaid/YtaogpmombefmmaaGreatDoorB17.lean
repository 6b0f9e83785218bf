/- What was put is got: plain mathematics; slices of calls of the call's own. Lengths as bits, as values: what is written is read. Plain mathematics of chapter 8. Symbols by words, as values: what was put is got. Plain mathematics of chapter 9 -/
import Derived.Test.YtaogpmombefmmaaGreatDoorB02
import Derived.Test.YtaogpmombefmmaaGreatDoorB05
import Derived.Test.YtaogpmombefmmaaGreatDoorB06
import Derived.Test.YtaogpmombefmmaaGreatDoorB07
import Derived.Test.YtaogpmombefmmaaGreatDoorB09
import Derived.Test.YtaogpmombefmmaaGreatDoorB10
import Derived.Test.YtaogpmombefmmaaGreatDoorB11
import Derived.Test.YtaogpmombefmmaaGreatDoorB12
import Derived.Test.YtaogpmombefmmaaGreatDoorB13
import Derived.Test.YtaogpmombefmmaaGreatDoorB15
import Derived.Test.YtaogpmombefmmaaGreatDoorB16
import Derived.BigQuiet
import Derived.IntWalk
import Derived.Deep.QuietTactic
import Derived.Deep.RegionLaw
namespace Go.Proofs.YtaogpmombefmmaaGreatDoor
open Go.RowKit
namespace Bit
theorem Packs.room {l:List UInt8}{P E Q:List Bool}(h:Packs l (P++E++Q)):P.length+E.length≤8*l.length:=by
 have hl:=h.1
 simp only [List.length_append] at hl
 omega
end Bit
end Go.Proofs.YtaogpmombefmmaaGreatDoor
namespace Go.Proofs.YtaogpmombefmmaaGreatDoor.Can
open Len
def zrun:Nat→List UInt8→Nat
 | 0,_=>0
 | _+1,[]=>0
 | f+1,x :: r=>if x=0 then zrun f r+1 else 0
theorem zrun_le:∀ (f:Nat) (r:List UInt8),zrun f r≤f∧zrun f r≤r.length
 | 0,_=>by simp [zrun]
 | _+1,[]=>by simp [zrun]
 | f+1,x :: r=>by
  have:=zrun_le f r
  rw [zrun]
  split
  ·simp;omega
  ·simp
theorem zrun_zero:∀ (f:Nat) (r:List UInt8),r.take (zrun f r)=List.replicate (zrun f r) 0
 | 0,_=>by simp [zrun]
 | _+1,[]=>by simp [zrun]
 | f+1,x :: r=>by
  rw [zrun]
  split
  ·rename_i h
   rw [List.take_succ_cons,zrun_zero f r,h,List.replicate_succ]
  ·simp
theorem zrun_stop:∀ (f:Nat) (r:List UInt8),zrun f r < f→∀ y,(r.drop (zrun f r)).head?=some y→y≠0
 | 0,_,h=>by simp [zrun] at h
 | _+1,[],_=>by simp [zrun]
 | f+1,x :: r,h=>by
  rw [zrun] at h ⊢
  split at h
  ·rename_i h0
   rw [if_pos h0,List.drop_succ_cons]
   exact zrun_stop f r (by omega)
  ·rename_i h0
   rw [if_neg h0]
   intro y hy
   simp at hy
   rw [← hy]
   exact h0
def wbits:List UInt8→List Bool
 | []=>[]
 | x :: r=>if x=0 then Bit.num 0 4++(Bit.num (zrun 63 r) 6++wbits (r.drop (zrun 63 r))) else Bit.num x.toNat 4++wbits r
termination_by l=>l.length
decreasing_by all_goals (simp;try omega)
theorem wbits_nil:wbits []=[]:=by rw [wbits]
theorem wbits_used {x:UInt8}(r:List UInt8)(h:x≠0):wbits (x :: r)=Bit.num x.toNat 4++wbits r:=by rw [wbits,if_neg h]
theorem wbits_zero (r:List UInt8):wbits (0 :: r)=Bit.num 0 4++(Bit.num (zrun 63 r) 6++wbits (r.drop (zrun 63 r))):=by rw [wbits,if_pos rfl]
theorem wbits_len:∀ l:List UInt8,(wbits l).length≤10*l.length
 | []=>by rw [wbits_nil];simp
 | x :: r=>by
  by_cases h:x=0
  ·subst h
   have:=wbits_len (r.drop (zrun 63 r))
   rw [wbits_zero,List.length_append,List.length_append,Bit.num_length,Bit.num_length]
   rw [List.length_drop] at this
   simp only [List.length_cons]
   omega
  ·have:=wbits_len r
   rw [wbits_used r h,List.length_append,Bit.num_length]
   simp only [List.length_cons]
   omega
termination_by l=>l.length
decreasing_by all_goals (simp;try omega)
end Go.Proofs.YtaogpmombefmmaaGreatDoor.Can
namespace Go.Proofs.YtaogpmombefmmaaGreatDoor.Huf
open Len Can
section
variable {l:List UInt8}
theorem word_fits (hr:right l=true){s:Nat}(hs:s < l.length)(h0:lenAt l s≠0):word l s < 2 ^ lenAt l s:=by
 obtain ⟨_,h15,hk⟩:=right_facts hr
 have h1:=acc_le l (lenAt l s) (s+1)
 rw [acc_step l (by omega) hs,if_pos rfl,← word_mul h0] at h1
 have h2:=h15 s hs
 have e:(2:Nat) ^ 15=2 ^ lenAt l s*2 ^ (15-lenAt l s):=by rw [← Nat.pow_add];congr 1;omega
 have h3:(word l s+1)*2 ^ (15-lenAt l s)≤2 ^ lenAt l s*2 ^ (15-lenAt l s):=by
  rw [← e,Nat.add_mul,Nat.one_mul]
  omega
 exact Nat.le_of_mul_le_mul_right h3 (Nat.pow_pos (by omega))
end
def fine (l:List UInt8)(s:Int):Bool:=decide (0≤s∧s < l.length∧lenAt l s.toNat≠0)
def putB (l:List UInt8)(s:Int):List Bool:=Bit.num (word l s.toNat) (lenAt l s.toNat)
def putE (l:List UInt8)(s:Int):Int:=if fine l s then 0 else 13
end Go.Proofs.YtaogpmombefmmaaGreatDoor.Huf
namespace Go.Proofs.YtaogpmombefmmaaGreatDoor.Huf
open Len Can
theorem lens_lenAt {often:List Nat}(h300:often.length≤300){q:Nat}(hq:q < often.length):lenAt (lensL often 15) q=lenN often 15 q :=
 lensL_at hq (by omega) (by omega) (Nat.le_trans (used_le _) (Nat.le_trans h300 (by decide)))
theorem right_lens {often:List Nat}(h300:often.length≤300):right (lensL often 15)=true:=by
 have hu:(usedTo often often.length).length≤2 ^ 15:=Nat.le_trans (used_le _) (Nat.le_trans h300 (by decide))
 have hk:=kraft_lens h300 (show 1≤15 by omega) (Nat.le_refl 15) hu
 have hU:usedC (lensL often 15) (lensL often 15).length=usedN often often.length:=by
  unfold usedC usedN
  rw [lensL_len]
  refine sumN_congr fun q hq=>?_
  rw [lens_lenAt h300 hq]
  by_cases h0:often.getD q 0=0
  ·rw [if_pos h0,if_pos (lenN_free h0 (by omega) hu)]
  ·have:=(lenN_used hq h0 (L:=15) (by omega) hu).1
   rw [if_neg h0,if_neg (by omega)]
 refine decide_eq_true ⟨by rw [hk],?_⟩
 rw [hU,hk]
 by_cases h2:2≤usedN often often.length
 ·rw [if_pos h2]
  exact .inr (.inr rfl)
 ·by_cases h1:usedN often often.length=1
  ·refine .inr (.inl ⟨h1,?_⟩)
   have h1':(usedTo often often.length).length=1:=by rw [used_len];exact h1
   have hs:=(used_at (often:=often) (j:=often.length) (i:=0) (by omega)).1
   unfold oneC
   rw [lensL_len,sumN_congr (g:=fun q=>if q=sOf (usedTo often often.length) 0 then 1 else 0) (fun q hq=>by
    rw [lens_lenAt h300 hq,lenN_one h1']
    by_cases e:q=sOf (usedTo often often.length) 0
    ·rw [if_pos e];rfl
    ·rw [if_neg e];rfl),sumN_pt,if_pos hs]
  ·exact .inl (by omega)
end Go.Proofs.YtaogpmombefmmaaGreatDoor.Huf
namespace Go.Proofs.YtaogpmombefmmaaGreatDoor.Tok
open Len Can Huf Lz
def isSym (q:Nat)(t:TokV):Bool:=decide ((splitE t).1.sym=(q:Int))
def isFar (q:Nat)(t:TokV):Bool:=decide (t.len≠0∧(splitE t).1.dist=(q:Int))
def countsS (L:List TokV):List Nat:=(List.range 265).map fun q=>L.countP (isSym q)+if q=256 then 1 else 0
def countsF (L:List TokV):List Nat:=(List.range 12).map fun q=>L.countP (isFar q)
theorem countsS_len (L:List TokV):(countsS L).length=265:=by simp [countsS]
theorem countsF_len (L:List TokV):(countsF L).length=12:=by simp [countsF]
theorem countsS_at (L:List TokV){q:Nat}(hq:q < 265):(countsS L).getD q 0=L.countP (isSym q)+if q=256 then 1 else 0:=by
 simp [countsS,List.getD_eq_getElem?_getD,hq]
theorem countsF_at (L:List TokV){q:Nat}(hq:q < 12):(countsF L).getD q 0=L.countP (isFar q):=by
 simp [countsF,List.getD_eq_getElem?_getD,hq]
def bestS (L:List TokV):List UInt8:=lensL (countsS L) 15
def bestF (L:List TokV):List UInt8:=lensL (countsF L) 15
theorem lens_found {often:List Nat}(h:often.length≤300):lensE often 15=(lensL often 15,0):=by
 have hu:=used_le (often:=often) often.length
 unfold lensE
 rw [if_neg (by omega),if_neg (by rw [show (15:Int).toNat=15 from rfl];omega)]
 rfl
theorem fine_found {often:List Nat}(h:often.length≤300){q:Nat}(hq:q < often.length)(h0:often.getD q 0≠0):fine (lensL often 15) (q:Int)=true:=by
 have hu:=used_le (often:=often) often.length
 have h1:=(lenN_used (often:=often) (L:=15) hq h0 (by omega) (by omega)).1
 refine decide_eq_true ⟨by omega,by rw [lensL_len];omega,?_⟩
 rw [Int.toNat_natCast,lens_lenAt h hq]
 omega
theorem bestS_right (L:List TokV):right (bestS L)=true:=right_lens (by rw [countsS_len];omega)
theorem bestF_right (L:List TokV):right (bestF L)=true:=right_lens (by rw [countsF_len];omega)
theorem bestS_len (L:List TokV):(bestS L).length=265:=by unfold bestS;rw [lensL_len,countsS_len]
theorem bestF_len (L:List TokV):(bestF L).length=12:=by unfold bestF;rw [lensL_len,countsF_len]
theorem end_fine (L:List TokV):fine (bestS L) 256=true:=fine_found (often:=countsS L) (q:=256) (by rw [countsS_len];omega) (by rw [countsS_len];omega) (by
 rw [countsS_at L (by omega),if_pos rfl]
 omega)
theorem sym_range {t:TokV}(h:may t=true):0≤(splitE t).1.sym∧(splitE t).1.sym < 265∧(splitE t).1.sym≠256∧(t.len≠0→0≤(splitE t).1.dist∧(splitE t).1.dist < 12):=by
 by_cases h0:t.len=0
 ·rw [split_lit h h0]
  have:=UInt8.toNat_lt t.lit
  dsimp only
  exact ⟨by omega,by omega,by omega,fun e=>absurd h0 e⟩
 ·obtain ⟨k,x,c,y,hk,hx,hc,hy,e1,e2,e3⟩:=split_match h h0
  rw [e3]
  dsimp only
  exact ⟨by omega,by omega,by omega,fun _=>⟨by omega,by omega⟩⟩
theorem sym_fine {L:List TokV}{t:TokV}(ht:t∈L)(h:may t=true):fine (bestS L) (splitE t).1.sym=true:=by
 obtain ⟨h1,h2,_,_⟩:=sym_range h
 obtain ⟨q,hq⟩:=Int.eq_ofNat_of_zero_le h1
 rw [hq]
 refine fine_found (often:=countsS L) (by rw [countsS_len];omega) (by rw [countsS_len];omega) ?_
 rw [countsS_at L (by omega)]
 have:0 < L.countP (isSym q):=List.countP_pos_iff.2 ⟨t,ht,decide_eq_true hq⟩
 omega
theorem dist_fine {L:List TokV}{t:TokV}(ht:t∈L)(h:may t=true)(h0:t.len≠0):fine (bestF L) (splitE t).1.dist=true:=by
 obtain ⟨h1,h2⟩:=(sym_range h).2.2.2 h0
 obtain ⟨q,hq⟩:=Int.eq_ofNat_of_zero_le h1
 rw [hq]
 refine fine_found (often:=countsF L) (by rw [countsF_len];omega) (by rw [countsF_len];omega) ?_
 rw [countsF_at L (by omega)]
 have:0 < L.countP (isFar q):=List.countP_pos_iff.2 ⟨t,ht,decide_eq_true ⟨h0,hq⟩⟩
 omega
def matchB (y:List UInt8)(p:PcV):List Bool:=Bit.num p.len.toNat (p.sym-257).toNat++(putB y p.dist++Bit.num p.far.toNat p.dist.toNat)
def tokB (x y:List UInt8)(t:TokV):List Bool:=putB x (splitE t).1.sym++if t.len=0 then [] else matchB y (splitE t).1
def bodyB (x y:List UInt8)(L:List TokV):List Bool:=L.flatMap (tokB x y)
def writeB (L:List TokV):List Bool:=wbits (bestS L)++(wbits (bestF L)++(bodyB (bestS L) (bestF L) L++putB (bestS L) 256))
def writeE (L:List TokV):List Bool×Int:=if 32768 < L.length then ([],6) else if L.all may then (writeB L,0) else ([],7)
end Go.Proofs.YtaogpmombefmmaaGreatDoor.Tok
namespace Go.Proofs.YtaogpmombefmmaaGreatDoor
theorem Bit.val_testBit (f:Nat→Bool):∀ n j,j < n→(Bit.val f n).testBit (n-1-j)=f j
 | 0,j,h=>by omega
 | n+1,j,h=>by
  have hb:(f n).toNat≤1:=by cases f n <;> simp
  rw [Bit.val]
  by_cases e:j=n
  ·subst e
   rw [show j+1-1-j=0 by omega,Nat.testBit_zero]
   cases hf:f j <;> simp <;> omega
  ·rw [show n+1-1-j=(n-1-j)+1 by omega,Nat.testBit_succ,show (2*Bit.val f n+(f n).toNat) / 2=Bit.val f n by omega]
   exact Bit.val_testBit f n j (by omega)
def Bit.pack (B:List Bool):List UInt8:=(List.range ((B.length+7) / 8)).map fun i=>UInt8.ofNat (Bit.val (fun j=>B.getD (8*i+j) false) 8)
theorem Bit.packs_pack (B:List Bool):Bit.Packs (Bit.pack B) B:=by
 refine ⟨by simp [Bit.pack],fun i hi=>?_⟩
 have hl:(Bit.pack B).length=(B.length+7) / 8:=by simp [Bit.pack]
 unfold Bit.at_
 have hd:i / 8 < (B.length+7) / 8:=by omega
 have e:(Bit.pack B).getD (i / 8) 0=UInt8.ofNat (Bit.val (fun j=>B.getD (8*(i / 8)+j) false) 8):=by
  unfold Bit.pack
  rw [List.getD_eq_getElem?_getD,List.getElem?_map,List.getElem?_range hd]
  rfl
 have hv:=Bit.val_lt (fun j=>B.getD (8*(i / 8)+j) false) 8
 rw [e,UInt8.toNat_ofNat',Nat.mod_eq_of_lt hv,show 7-i % 8=8-1-i % 8 by omega,Bit.val_testBit _ 8 (i % 8) (by omega)]
 congr 1
 omega
theorem Bit.Packs.is {l:List UInt8}{B:List Bool}(h:Bit.Packs l B):l=Bit.pack B:=h.uniq (Bit.packs_pack B)
end Go.Proofs.YtaogpmombefmmaaGreatDoor
namespace Go.Proofs.YtaogpmombefmmaaGreatDoor
open Go.RowKit Len Can Huf
def H16At (w:World)(B:Nat)(A:Option Addr)(n:Nat)(L:List Nat):Prop :=
 L.length=n∧(n=0∨∃ b off,A=some ⟨b,off,none⟩∧b < B∧∀ i,i < n→w.cell? ⟨b,off+i,none⟩=some (.int .u16 ((L.getD i 0:Nat):Int)))
theorem H16At.below {w w':World}{B C:Nat}{A:Option Addr}{n:Nat}{L:List Nat}(h:H16At w B A n L)(hb:Below C w w')(hC:B≤C):H16At w' B A n L:=by
 refine ⟨h.1,?_⟩
 rcases h.2 with h0 | ⟨b,off,hA,hB,hc⟩
 ·exact .inl h0
 ·exact .inr ⟨b,off,hA,hB,fun i hi=>by rw [hb.cell (p:=⟨b,off+i,none⟩) (Nat.lt_of_lt_of_le hB hC)];exact hc i hi⟩
theorem H16At.mono {w:World}{B C:Nat}{A:Option Addr}{n:Nat}{L:List Nat}(h:H16At w B A n L)(hC:B≤C):H16At w C A n L:=by
 refine ⟨h.1,?_⟩
 rcases h.2 with h0 | ⟨b,off,hA,hB,hc⟩
 ·exact .inl h0
 ·exact .inr ⟨b,off,hA,Nat.lt_of_lt_of_le hB hC,hc⟩
theorem OwnH.reads {w:World}{base:Nat}{v:Value}{L:List Nat}(h:OwnH w base v L):∃ A c,v=.slice A L.length c∧L.length≤c∧c≤maxLen∧H16At w w.heap.size A L.length L:=by
 obtain ⟨A,c,rfl,hc,hm,hA⟩:=h.form
 refine ⟨A,c,rfl,hc,hm,rfl,?_⟩
 rcases hA with h0 | ⟨g,rfl,hb,hg⟩
 ·exact .inl h0
 ·exact .inr ⟨g,0,rfl,hg,fun i hi=>by rw [Nat.zero_add];exact (h.cell hi).1⟩
def RefCod (w:World)(B:Nat)(v:Value)(l:List UInt8):Prop :=
 ∃ A1 c1 A2 c2,v=.agg #[.slice A1 l.length c1,.slice A2 l.length c2]∧l.length≤c1∧c1≤maxLen∧Bytes w B A1 l.length l∧H16At w B A2 l.length (codesL l)
def RefCodR (w:World)(lo hi:Nat)(v:Value)(l:List UInt8):Prop :=
 ∃ A1 c1 A2 c2,v=.agg #[.slice A1 l.length c1,.slice A2 l.length c2]∧OwnB w lo (.slice A1 l.length c1) l∧OwnH w lo (.slice A2 l.length c2) (codesL l) ∧
  (∀ k,Value.ownBlock (.slice A1 l.length c1)=some k→k < hi)∧(∀ k,Value.ownBlock (.slice A2 l.length c2)=some k→k < hi)
theorem RefCodR.mod {w w':World}{lo hi g:Nat}{ob:Option Nat}{v:Value}{l:List UInt8}(h:RefCodR w lo hi v l)(hM:Mod w w' g ob)(hg:g < lo∨hi≤g)(ho:∀ k,ob=some k→k < lo∨hi≤k):RefCodR w' lo hi v l:=by
 obtain ⟨A1,c1,A2,c2,e,h1,h2,h3,h4⟩:=h
 have far:∀ x:Value,(∀ k,x.ownBlock=some k→lo≤k∧k < hi)→x.ownBlock≠some g∧(x.ownBlock=none∨x.ownBlock≠ob):=fun x hx=>by
  refine ⟨fun e=>by have:=hx g e;omega,?_⟩
  cases hv:x.ownBlock with
  | none=>exact .inl rfl
  | some k =>
   refine .inr fun e=>?_
   have:=hx k hv
   have:=ho k e.symm
   omega
 obtain ⟨a1,a2⟩:=far _ (fun k hk=>⟨(h1.lt k hk).1,h3 k hk⟩)
 obtain ⟨b1,b2⟩:=far _ (fun k hk=>⟨(h2.lt k hk).1,h4 k hk⟩)
 refine ⟨A1,c1,A2,c2,e,hM.own h1 a1 a2,⟨h2.1,?_⟩,h3,h4⟩
 rcases h2.2 with hn | ⟨x,cap,cur,e2,hb,hgg,rest⟩
 ·exact .inl hn
 ·rw [e2] at b1 b2
  refine .inr ⟨x,cap,cur,e2,hb,?_,rest⟩
  rw [hM.block x (Array.getElem?_eq_some_iff.1 hgg).1 (fun e3=>b1 (by subst e3;rfl)) (fun e3=>by
   rcases b2 with b2 | b2
   ·simp [Value.ownBlock] at b2
   ·exact b2 (by simpa [Value.ownBlock] using e3))]
  exact hgg
theorem RefCodR.ext {w w':World}{lo hi:Nat}{v:Value}{l:List UInt8}(h:RefCodR w lo hi v l)(hE:Ext w w'):RefCodR w' lo hi v l:=by
 obtain ⟨A1,c1,A2,c2,e,h1,h2,h3,h4⟩:=h
 exact ⟨A1,c1,A2,c2,e,h1.ext hE,h2.ext hE,h3,h4⟩
def RefNewR (w:World)(l:List UInt8)(e:Ending)(w':World):Prop :=
 ∃ v,e=.returned (.tuple #[v,.int .i64 (checkE l)])∧(right l=true→RefCodR w' w.heap.size w'.heap.size v l)∧(right l=false→v=.agg #[.slice none 0 0,.slice none 0 0])∧Ext w w'
theorem Can.codesL_len (l:List UInt8):(codesL l).length=l.length:=by simp [codesL]
theorem Can.codesL_at {l:List UInt8}{i:Nat}(hi:i < l.length):(codesL l).getD i 0=word l i:=by simp [codesL,List.getD_eq_getElem?_getD,hi]
theorem RefCodR.cod {w:World}{lo hi:Nat}{v:Value}{l:List UInt8}(h:RefCodR w lo hi v l):RefCod w w.heap.size v l:=by
 obtain ⟨A1,c1,A2,c2,e,h1,h2,_,_⟩:=h
 obtain ⟨A7,c7,e7,h7c,h7m,h7⟩:=h1.form
 simp only [Value.slice.injEq] at e7
 obtain ⟨rfl,_,rfl⟩:=e7
 obtain ⟨A8,c8,e8,_,_,h8⟩:=OwnH.reads h2
 simp only [Value.slice.injEq] at e8
 obtain ⟨rfl,_,rfl⟩:=e8
 rw [codesL_len] at h8
 exact ⟨_,_,_,_,e,h7c,h7m,h7,h8⟩
end Go.Proofs.YtaogpmombefmmaaGreatDoor
namespace Go.Proofs.YtaogpmombefmmaaGreatDoor
open Go.RowKit Len Can
def Can.itemV (x m:Nat):Array Value:=#[.int .u8 (x:Int),.int .i64 (m:Int)]
theorem canItem_info:(Tryz.prog.info? 168).map (·.size)=some 2:=by kernel_rfl
theorem Can.itemV_one (x m:Nat):(itemV x m).all (·.oneCell')=true:=by
 simp [itemV]
 exact ⟨rfl,rfl⟩
set_option maxHeartbeats 1000000 in
theorem isRow_any (x m:Nat)(hx:x < 256)(w:World):Calls Tryz.prog 121 #[.agg (itemV x m)] w fun e w'=>e=.returned (.bool (decide (x=0)))∧Ext w w':=by
 have hE1:=extNew w (.cells (itemV x m) 168)
 have hW1:=Whole.new w 168 (itemV x m)
 have c0:=hW1.at 0 (u:=.int .u8 (x:Int)) rfl
 have HG:=hide (show decide (x=0)=((x:Int) == 0) by
  by_cases h:x=0
  ·subst h;rfl
  ·rw [decide_eq_false h]
   symm
   rw [beq_eq_false_iff_ne]
   omega)
 generalize decide (x=0)=r at *
 generalize itemV x m=V at *
 go_enter Tryz.func121,Tryz.ntmps121
 go_wp2
 go_ret
 exact ⟨ret_bool HG.out.symm,hE1⟩
def Can.headM (x:UInt8)(r:List UInt8):Nat:=if x=0 then zrun 63 r+1 else 1
set_option maxHeartbeats 1000000 in
set_option maxRecDepth 1000000 in
theorem itemOf_any (A:Option Addr)(n c:Nat)(x:UInt8)(r:List UInt8)(w:World)(hr:r.length≤400)(h:Bytes w w.heap.size A n (x :: r)):Calls Tryz.prog 108 #[.slice A n c] w fun e w'=>e=.returned (.agg (itemV x.toNat (headM x r)))∧Ext w w':=by
 have hl:=h.1
 subst hl
 have hE1:=extNew w (.cells #[.int .u8 0,.int .i64 0] 168)
 have hW1:=Whole.new w 168 #[.int .u8 0,.int .i64 0]
 rcases (hE1.bytes h).2 with h0 | ⟨b,o,rfl,hB,hc⟩
 ·simp at h0
 have hc0:=hc 0 (by simp)
 rw [Nat.add_zero,List.getD_cons_zero] at hc0
 have hx8:=UInt8.toNat_lt x
 have hinf:(Tryz.prog.info? 168).map (·.size)=some (itemV x.toNat (headM x r)).size:=canItem_info
 by_cases h0:x=0
 ·subst h0
  have hz:=zrun_le 63 r
  have HZ:=hide (show ∀ i,i < zrun 63 r→r.getD i 0=0 from fun i hi=>by
   have:=congrArg (fun l=>l[i]?) (zrun_zero 63 r)
   simp only [List.getElem?_take,if_pos hi,List.getElem?_replicate] at this
   rw [List.getD_eq_getElem?_getD,this]
   rfl)
  have HS:=hide (show zrun 63 r < 63→zrun 63 r < r.length→r.getD (zrun 63 r) 0≠0 from fun h1 h2=>zrun_stop 63 r h1 _ (by rw [List.head?_drop,List.getD_eq_getElem?_getD,List.getElem?_eq_getElem h2];rfl))
  have HM:=hide (show headM 0 r=zrun 63 r+1 from if_pos rfl)
  generalize zrun 63 r=m at *
  have HC:=hide (show ∀ i,i < r.length→(w.alloc (.cells #[.int .u8 0,.int .i64 0] 168)).cell? ⟨b,o+(i+1),none⟩=some (.int .u8 ((r.getD i 0).toNat:Int)) from fun i hi=>hc (i+1) (by simp;omega))
  have hmin:∃ M:Int,(if (64:Int) < ((r.length:Int)+1) then 64 else (r.length:Int)+1)=M∧M=(min (r.length+1) 64:Nat):=⟨_,rfl,by split <;> omega⟩
  obtain ⟨M,hM,hM2⟩:=hmin
  have HMn:=hide hM
  have HM2:=hide hM2
  clear hc h hM hM2
  change (w.alloc (.cells #[.int .u8 0,.int .i64 0] 168)).cell? ⟨b,o,none⟩=some (.int .u8 0) at hc0
  clear hinf
  go_enter Tryz.func108,Tryz.ntmps108
  go_wp2_with fail
  go_loopw [3] (fun a wq=>∃ j:Nat,j≤m∧a=.int .i64 ((j+1:Nat):Int)∧wq=w.alloc (.cells #[.int .u8 0,.int .i64 0] 168)) (fun a _=>64-(intOf a).toNat)
  case atStart=>exact ⟨0,by omega,rfl,rfl⟩
  case round =>
   obtain ⟨j,hj,rfl,rfl⟩:=hrel
   have hM2:=HM2.out
   by_cases hjm:j < m
   ·have h0j:=HZ.out j hjm
    have hcj:=HC.out j (by omega)
    rw [h0j] at hcj
    change (w.alloc (.cells #[.int .u8 0,.int .i64 0] 168)).cell? ⟨b,o+(j+1),none⟩=some (.int .u8 0) at hcj
    have hjM:((j+1:Nat):Int) < M:=by omega
    have hjr:j+1 < r.length+1:=by omega
    clear h0j hM2
    go_wp2_with (refine wpList_min rfl (.tmp 14) (.const (.int .i64 64)) rfl rfl rfl HMn.out ?_)
    go_roundw
    case rel=>exact ⟨j+1,by omega,by go_num,trivial⟩
    case measure=>simp [intOf];omega
   ·obtain rfl:j=m:=by omega
    by_cases hjM:((j+1:Nat):Int) < M
    ·have hne:=HS.out (by omega) (by omega)
     have hcj:=HC.out j (by omega)
     have hy8:=UInt8.toNat_lt (r.getD j 0)
     have hyne:(r.getD j 0).toNat≠0:=fun e=>hne (UInt8.toNat_inj.1 e)
     generalize (r.getD j 0).toNat=y at *
     have hyb:((y:Int) == 0)=false:=by rw [beq_eq_false_iff_ne];omega
     have hjr:j+1 < r.length+1:=by omega
     clear hne hM2 hyne
     go_wp2_with (refine wpList_min rfl (.tmp 14) (.const (.int .i64 64)) rfl rfl rfl HMn.out ?_)
     refine bodyPost_ret (results_cell_row rfl _ _ _ _ _ _ _ rfl (Whole.new w _ _) Tryz.underlying168 rfl canItem_info) rfl ?_
     exact ⟨by rw [HM.out];rfl,extNew w _⟩
    ·clear hM2
     go_wp2_with (refine wpList_min rfl (.tmp 14) (.const (.int .i64 64)) rfl rfl rfl HMn.out ?_)
     refine bodyPost_ret (results_cell_row rfl _ _ _ _ _ _ _ rfl (Whole.new w _ _) Tryz.underlying168 rfl canItem_info) rfl ?_
     exact ⟨by rw [HM.out];rfl,extNew w _⟩
 ·have hx0:(0:Int) < (x.toNat:Int):=by
   have:x.toNat≠0:=fun e=>h0 (UInt8.toNat_inj.1 e)
   omega
  have HM:=hide (show headM x r=1 from if_neg h0)
  have hE5:=extNew w (.cells (itemV x.toNat 1) 168)
  have hW5:=Whole.new w 168 (itemV x.toNat 1)
  go_enter Tryz.func108,Tryz.ntmps108
  go_wp2
  refine bodyPost_ret (results_cell_row rfl _ _ _ _ _ _ _ rfl hW5 Tryz.underlying168 rfl canItem_info) rfl ?_
  exact ⟨by rw [HM.out],hE5⟩
def Can.itemB (x m:Nat):List Bool:=Bit.num x 4++if x=0 then Bit.num (m-1) 6 else []
theorem Can.put4I {x:Nat}(h:x < 16):Bit.putErr x 4=0∧Bit.putBits x 4=Bit.num x 4:=Bit.put_good (decide_eq_true ⟨by omega,by omega,h⟩)
theorem Can.put6I {x:Nat}(h:x < 64):Bit.putErr x 6=0∧Bit.putBits x 6=Bit.num x 6:=Bit.put_good (decide_eq_true ⟨by omega,by omega,h⟩)
set_option maxHeartbeats 100000 in
set_option maxRecDepth 1000000 in
theorem itemWrite_any (x m:Nat)(hx:x < 16)(hm:x=0→1≤m∧m≤64){t:TypeId}{R:List Value}{w:World}{base g:Nat}{ob:Option Nat}{B:List Bool}(h:WrtX t R w base g ob B)(hfit:B.length≤800000000) :
  Calls Tryz.prog 109 #[.agg (itemV x m),.pointer (some ⟨g,0,none⟩)] w fun e w'=>e=.returned (.tuple #[])∧∃ ob',WrtX t R w' base g ob' (B++itemB x m)∧NewOb w ob ob'∧Mod w w' g ob:=by
 have hE1:=extNew w (.cells (itemV x m) 168)
 have hW1:=Whole.new w 168 (itemV x m)
 have c0:=hW1.at 0 (u:=.int .u8 (x:Int)) rfl
 have CP:=put_any (h.ext hE1) x 4 (by omega)
 rw [(put4I hx).1,(put4I hx).2] at CP
 have CR:=fun W=>isRow_any x m (by omega) W
 have HN:=hide (Bit.num_length x 4)
 have HI:=hide (show itemB x m=Bit.num x 4++if x=0 then Bit.num (m-1) 6 else [] from rfl)
 have hgl:=h.lt
 have hne:=h.ne
 have hob:=h.ob
 obtain ⟨V,hV⟩:∃ V,V=itemV x m:=⟨_,rfl⟩
 have HVs:=hide (show V.size=2 by rw [hV];rfl)
 have HV1:=hide (show V[1]?=some (.int .i64 (m:Int)) by rw [hV];rfl)
 rw [← hV] at hE1 hW1 c0 CP CR ⊢
 clear hV
 go_enter Tryz.func109,Tryz.ntmps109
 go_wp2_with fail
 refine CP.mono ?_
 rintro e w2 ⟨rfl,ob2,hR2,hO2,hM2⟩
 have hW2:=hM2.whole hW1 (by omega) (fun e=>by have:=(hob _ e).2;omega)
 have hMw:Mod w w2 g ob:=(Mod.ofExt hE1).trans hM2 (.inl rfl)
 have hNw:NewOb w ob ob2:=(NewOb.same w ob).trans hE1.le hO2
 have hsz:=hE1.le
 have hg2:w.heap.size < w2.heap.size:=hW2.lt
 clear hW1 c0 CP hE1 hO2 hM2
 have hinf:(Tryz.prog.info? 168).map (·.size)=some V.size:=by rw [HVs.out];exact canItem_info
 by_cases h0:x=0
 ·rw [decide_eq_true h0] at CR
  have hm0:=hm h0
  have HI2:=hide (show itemB x m=Bit.num x 4++Bit.num (m-1) 6 by rw [HI.out,if_pos h0])
  go_wp2_with (refine wpList_load_row rfl 168 (.tmp 2) rfl _ rfl _ _ _ _ hW2 Tryz.underlying168 rfl hinf ?_)
  refine (CR _).mono ?_
  rintro e w3 ⟨rfl,hE3⟩
  have hW3:=hW2.ext hE3
  have c1:=hW3.at 1 HV1.out
  have CP:=put_any (hR2.ext hE3) (m-1) 6 (by rw [List.length_append,HN.out];omega)
  rw [(put6I (x:=m-1) (by omega)).1,(put6I (x:=m-1) (by omega)).2] at CP
  have hm1:(1:Int)≤(m:Int):=by omega
  have hm64:(m:Int)≤64:=by omega
  have hcv:((m-1:Nat):Int)=(m:Int)-1:=by omega
  rw [hcv] at CP
  have HCv:=hide hcv
  clear hcv CR hm hm0
  go_wp2_with fail
  refine CP.mono ?_
  rintro e w4 ⟨rfl,ob4,hR4,hO4,hM4⟩
  have hE23:=Mod.ofExt (g:=g) (ob:=ob2) hE3
  have hMf:=hMw.trans (hE23.trans hM4 (.inl rfl)) hNw
  have hNf:=hNw.trans hMw.size ((NewOb.same w2 ob2).trans hE3.le hO4)
  go_wp2
  go_end0
  refine ⟨rfl,ob4,?_,hNf,hMf⟩
  rw [HI2.out,← List.append_assoc]
  exact hR4
 ·rw [decide_eq_false h0] at CR
  have HI2:=hide (show itemB x m=Bit.num x 4 by rw [HI.out,if_neg h0,List.append_nil])
  go_wp2_with (refine wpList_load_row rfl 168 (.tmp 2) rfl _ rfl _ _ _ _ hW2 Tryz.underlying168 rfl hinf ?_)
  refine (CR _).mono ?_
  rintro e w3 ⟨rfl,hE3⟩
  clear CR
  go_wp2
  go_end0
  refine ⟨rfl,ob2,?_,hNw,hMw.trans (Mod.ofExt (ob:=ob2) hE3) hNw⟩
  rw [HI2.out]
  exact hR2.ext hE3
end Go.Proofs.YtaogpmombefmmaaGreatDoor
namespace Go.Proofs.YtaogpmombefmmaaGreatDoor.Huf
open Len Can
def tot (l:List UInt8)(O:List Nat):Nat:=(O.map fun s=>2 ^ (15-lenAt l s)).sum
def startOf (l:List UInt8)(s:Nat):Nat:=word l s*2 ^ (15-lenAt l s)
def starts (l:List UInt8)(O:List Nat):List Nat:=O.map (startOf l)
structure Ord (l:List UInt8)(k s:Nat)(O:List Nat):Prop where
 acc:Can.acc l k s=tot l O
 all:∀ t,t < l.length→done l k s t→t∈O
 at_:∀ i,i < O.length→O.getD i 0 < l.length∧lenAt l (O.getD i 0)≠0∧startOf l (O.getD i 0)=tot l (O.take i)
section
variable {l:List UInt8}{k s:Nat}{O:List Nat}
theorem tot_snoc (l:List UInt8)(O:List Nat)(s:Nat):tot l (O++[s])=tot l O+2 ^ (15-lenAt l s):=by simp [tot]
theorem starts_snoc (l:List UInt8)(O:List Nat)(s:Nat):starts l (O++[s])=starts l O++[startOf l s]:=by simp [starts]
theorem starts_len (l:List UInt8)(O:List Nat):(starts l O).length=O.length:=by simp [starts]
theorem Ord.start:Ord l 1 0 [] where
 acc:=by rw [acc_start];rfl
 all:=fun t _ h=>by unfold done at h;omega
 at_:=fun i hi=>absurd hi (by simp)
theorem Ord.turn (h:Ord l k l.length O):Ord l (k+1) 0 O where
 acc:=by rw [acc_turn];exact h.acc
 all:=fun t ht hd=>h.all t ht (by unfold done at *;omega)
 at_:=h.at_
theorem Ord.pass (h:Ord l k s O)(hk:1≤k)(hs:s < l.length)(hne:lenAt l s≠k):Ord l k (s+1) O where
 acc:=by rw [acc_step l hk hs,if_neg hne];exact h.acc
 all:=fun t ht hd=>h.all t ht (by
  unfold done at *
  refine ⟨hd.1,?_⟩
  rcases hd.2 with e | e
  ·exact .inl e
  ·by_cases e2:t=s
   ·subst e2;omega
   ·exact .inr ⟨e.1,by omega⟩)
 at_:=h.at_
theorem Ord.put (h:Ord l k s O)(hk:1≤k)(hs:s < l.length)(he:lenAt l s=k):Ord l k (s+1) (O++[s]) where
 acc:=by rw [acc_step l hk hs,if_pos he,h.acc,tot_snoc,he]
 all:=fun t ht hd=>by
  rw [List.mem_append]
  by_cases e2:t=s
  ·exact .inr (by simp [e2])
  ·exact .inl (h.all t ht (by unfold done at *;omega))
 at_:=fun i hi=>by
  rw [List.length_append] at hi
  simp at hi
  by_cases hlt:i < O.length
  ·have:=h.at_ i hlt
   rw [List.take_append_of_le_length (by omega)]
   simp only [List.getD_eq_getElem?_getD,List.getElem?_append_left hlt] at *
   exact this
  ·obtain rfl:i=O.length:=by omega
   have e:(O++[s]).getD O.length 0=s:=by simp [List.getD_eq_getElem?_getD]
   rw [e,List.take_append_of_le_length (Nat.le_refl _),List.take_length]
   refine ⟨hs,by omega,?_⟩
   unfold startOf
   rw [word_mul (by omega),he,h.acc]
theorem Ord.len_le (h:Ord l k s O)(hk:Can.acc l k s≤32768):∀ n,n≤O.length→n≤tot l (O.take n)
 | 0,_=>Nat.zero_le _
 | n+1,hn=>by
  have ih:=h.len_le hk n (by omega)
  have e:O.take (n+1)=O.take n++[O.getD n 0]:=by
   rw [List.take_succ_eq_append_getElem (by omega),List.getD_eq_getElem?_getD,List.getElem?_eq_getElem (by omega)];rfl
  rw [e,tot_snoc]
  have:0 < 2 ^ (15-lenAt l (O.getD n 0)):=Nat.pow_pos (by omega)
  omega
theorem startOf_lt (hr:right l=true)(hs:s < l.length)(h0:lenAt l s≠0):startOf l s+2 ^ (15-lenAt l s)≤32768:=by
 unfold startOf
 have h1:=acc_le l (lenAt l s) (s+1)
 rw [acc_step l (by omega) hs,if_pos rfl,← word_mul h0] at h1
 have:=(right_facts hr).2.2
 omega
theorem Ord.len_300 (h:Ord l k s O)(hr:right l=true):O.length≤32768:=by
 have h2:=acc_le l k s
 have h3:=(right_facts hr).2.2
 have h1:=h.len_le (by omega) O.length (Nat.le_refl _)
 rw [List.take_length,← h.acc] at h1
 omega
end
end Go.Proofs.YtaogpmombefmmaaGreatDoor.Huf
namespace Go.Proofs.YtaogpmombefmmaaGreatDoor
open Go.RowKit Len Can Huf
def Huf.lenX (l:List UInt8)(s:Int):Nat:=if 0≤s∧s < (l.length:Int) then lenAt l s.toNat else 0
theorem Huf.lenX_at {l:List UInt8}{s:Nat}(h:s < l.length):lenX l (s:Int)=lenAt l s:=by
 unfold lenX
 rw [if_pos (by omega),Int.toNat_natCast]
theorem Huf.lenX_fine (l:List UInt8)(s:Int):(fine l s=true→lenX l s=lenAt l s.toNat∧lenX l s≠0)∧(fine l s=false→lenX l s=0):=by
 unfold fine lenX
 constructor
 ·intro h
  obtain ⟨h1,h2,h3⟩:=of_decide_eq_true h
  rw [if_pos ⟨h1,h2⟩]
  exact ⟨rfl,h3⟩
 ·intro h
  have h1:=of_decide_eq_false h
  split
  ·rename_i h2
   exact Classical.byContradiction fun h3=>h1 ⟨h2.1,h2.2,h3⟩
  ·rfl
theorem hlength_any {w:World}{B g c:Nat}{A:Option Addr}{l:List UInt8}(h:w.cell? ⟨g,0,none⟩=some (.slice A l.length c))(hb:Bytes w B A l.length l)(s:Int) :
  Calls Tryz.prog 97 #[.pointer (some ⟨g,0,none⟩),.int .i64 s] w fun e w'=>e=.returned (.int .i64 ((lenX l s:Nat):Int))∧w=w':=by
 by_cases h0:s < 0
 ·have hx:lenX l s=0:=by unfold lenX;rw [if_neg (by omega)]
  rw [hx]
  clear hx
  go_enter Tryz.func97,Tryz.ntmps97
  go_wp2
  go_ret
  exact ⟨rfl,rfl⟩
 obtain ⟨k,rfl⟩:=Int.eq_ofNat_of_zero_le (show 0≤s by omega)
 by_cases hk:k < l.length
 ·have hkI:(k:Int) < (l.length:Int):=by omega
  rcases hb.2 with hn | ⟨b1,o1,rfl,hb1,hc1⟩
  ·omega
  have e1:w.cell? ⟨b1,o1+k,none⟩=some (.int .u8 ((lenAt l k:Nat):Int)):=hc1 k hk
  have hy:lenAt l k < 256:=UInt8.toNat_lt _
  rw [lenX_at hk]
  clear hc1 hb
  generalize lenAt l k=y at *
  go_enter Tryz.func97,Tryz.ntmps97
  go_wp2
  go_ret
  exact ⟨rfl,rfl⟩
 ·have hkI:¬ (k:Int) < (l.length:Int):=by omega
  have hx:lenX l (k:Int)=0:=by unfold lenX;rw [if_neg (by omega)]
  rw [hx]
  clear hx
  go_enter Tryz.func97,Tryz.ntmps97
  go_wp2
  go_ret
  exact ⟨rfl,rfl⟩
def TabAt (w:World)(B g:Nat)(l:List UInt8):Prop :=
 ∃ A1 c1 A2 c2 A3 c3 A4 c4 O,w.cell? ⟨g,0,none⟩=some (.slice A1 l.length c1)∧w.cell? ⟨g,1,none⟩=some (.slice A2 l.length c2)∧w.cell? ⟨g,2,none⟩=some (.slice A3 O.length c3)∧w.cell? ⟨g,3,none⟩=some (.slice A4 O.length c4) ∧
  Bytes w B A1 l.length l∧H16At w B A2 l.length (codesL l)∧IntsAt w B A3 O.length (O.map fun s:Nat=>(s:Int))∧H16At w B A4 O.length (starts l O)∧Ord l 16 0 O
end Go.Proofs.YtaogpmombefmmaaGreatDoor
namespace Go.Proofs.YtaogpmombefmmaaGreatDoor
open Go.RowKit Len Can Huf
theorem ownsRow_low {w:World}{base size m:Nat}{E:TypeId}{A:Option Addr}{n c:Nat}{cs:List Value}(h:w.ownsRow base E size (.slice A n c) m cs):∀ b o,A=some ⟨b,o,none⟩→base≤b:=by
 intro b o hA
 rcases h.2 with ⟨hv,_⟩ | ⟨g,cap,cur,hv,hb,_⟩
 ·simp only [Value.slice.injEq] at hv
  rw [hv.1] at hA
  cases hA
 ·simp only [Value.slice.injEq] at hv
  rw [hv.1] at hA
  injection hA with hA
  injection hA with hA
  omega
theorem ownsRow_apartH {w:World}{base base' size size' m m':Nat}{E E':TypeId}{v v':Value}{cs cs':List Value}(h:w.ownsRow base E size v m cs)(h':w.ownsRow base' E' size' v' m' cs')(hne:E≠E'):v.ownBlock=none∨v.ownBlock≠v'.ownBlock:=by
 rcases h.2 with ⟨rfl,_⟩ | ⟨g,cap,cur,rfl,hb,hg,_⟩
 ·exact .inl rfl
 rcases h'.2 with ⟨rfl,_⟩ | ⟨g',cap',cur',rfl,hb',hg',_⟩
 ·refine .inr ?_
  simp [Value.ownBlock]
 ·refine .inr fun e=>hne ?_
  have e2:g=g':=by simpa [Value.ownBlock] using e
  subst e2
  rw [hg] at hg'
  simp only [Option.some.injEq,Obj.cells.injEq] at hg'
  exact hg'.2.1
theorem app16_run {w:World}(ty:TypeId){base:Nat}{v:Value}{T:List Nat}(hown:OwnH w base v T){gx m c p:Nat}(hm:m=1)(hc:w.cell? ⟨gx,0,none⟩=some (.int .u16 (p:Int)))(hlen:T.length≤1000000)(hbase:base≤w.heap.size) :
  ∃ v' w',(Builtin.append_ #[93,93] ty #[v,.slice (some ⟨gx,0,none⟩) m c]).run Tryz.prog w=.ok v' w'∧OwnH w' base v' (T++[p])∧w.grownBy w' v.ownBlock:=by
 subst hm
 obtain ⟨i,hi,hz,hs,hby⟩:=info_parts h16_info
 obtain ⟨v',w',hr,h2,h3,_,_⟩:=run_append_own_at (P:=Tryz.prog) w base 93 ty 131 i _ 1 2 Tryz.underlying93 hi hz hs hby rfl (by omega) v T.length (T.map h16V) hown
  ⟨gx,0,none⟩ 1 c [h16V p] rfl (by
   intro j u hu
   match j,hu with
   | 0,hu =>
    have:(⟨gx,0,none⟩:Addr).add 0=⟨gx,0,none⟩:=rfl
    rw [this,hc]
    simpa [h16V] using hu
   | j+1,hu=>simp at hu) (by
   intro u hu
   simp at hu
   subst hu
   rfl) (by unfold maxLen;omega) (by omega) hbase
 refine ⟨v',w',hr,?_,h3⟩
 unfold OwnH
 rw [List.length_append,List.map_append]
 exact h2
theorem step_app16 {ops:Array Oper}{o:Oper}{a:Act}{K:Act→World→Prop}{Q:Exit→Act→World→Prop}{E:Prop}{w:World}{base:Nat}{v:Value}{T:List Nat}(hgd:o.guard=none)(s x:Operand)
  (ho:o.op=.call { callee:=.builtin .append,args:=#[s,x],argTypes:=#[93,93] }) (hs:a.eval s=v) (hown:OwnH w base v T) {gx m c p:Nat} (hm:m=1) (hx:a.eval x=.slice (some ⟨gx,0,none⟩) m c) (hc:w.cell? ⟨gx,0,none⟩=some (.int .u16 (p:Int)))
  (hlen:T.length≤1000000) (hbase:base≤w.heap.size) (h:∀ v' w',OwnH w' base v' (T++[p])→w.grownBy w' v.ownBlock→K (a.put o.dst v') w') :
  if Region.wanted o (yielded ops a.tmps)=true then Oper.wp Tryz.prog o a w K Q else E:=by
 have hw:Region.wanted o (yielded ops a.tmps)=true:=by simp [Region.wanted,hgd]
 rw [if_pos hw]
 obtain ⟨v',w',hr,h2,h3⟩:=app16_run (c:=c) o.type hown hm hc hlen hbase
 unfold Oper.wp execOp
 simp only [ho,resolve,invoke,builtin,Sem.run_bind,Sem.run_pure,Result.andThen_ok,List.map_toArray,List.map_cons,List.map_nil,hs,hx,hr]
 exact h v' w' h2 h3
structure TabS (w:World)(g:Nat)(A1:Option Addr)(c1:Nat)(A2:Option Addr)(c2:Nat)(v3 v4:Value)(l:List UInt8)(L:List Int)(T:List Nat):Prop where
 whole:Whole w g 152 #[.slice A1 l.length c1,.slice A2 l.length c2,v3,v4]
 syms:OwnI w (g+1) v3 L
 starts:OwnH w (g+1) v4 T
 lens:Bytes w g A1 l.length l
 words:H16At w g A2 l.length (codesL l)
section
variable {w w':World}{g:Nat}{A1:Option Addr}{c1:Nat}{A2:Option Addr}{c2:Nat}{v3 v4 v3' v4':Value}{l:List UInt8}{L:List Int}{T:List Nat}
theorem TabS.ext (h:TabS w g A1 c1 A2 c2 v3 v4 l L T)(hE:Ext w w'):TabS w' g A1 c1 A2 c2 v3 v4 l L T :=
 ⟨h.whole.ext hE,h.syms.ext hE,h.starts.ext hE,h.lens.below (Below.mono hE (Nat.le_of_lt h.whole.lt)) (Nat.le_refl _),h.words.below (Below.mono hE (Nat.le_of_lt h.whole.lt)) (Nat.le_refl _)⟩
theorem TabS.appI (h:TabS w g A1 c1 A2 c2 v3 v4 l L T)(hG:w.grownBy w' v3.ownBlock):Whole w' g 152 #[.slice A1 l.length c1,.slice A2 l.length c2,v3,v4]∧OwnH w' (g+1) v4 T∧Below (g+1) w w'∧Bytes w' g A1 l.length l∧H16At w' g A2 l.length (codesL l):=by
 have hlt:=h.syms.lt
 have hB:Below (g+1) w w':=Below.grown (Below.refl (g+1) w) hG h.whole.lt (fun k hk=>(hlt k hk).1)
 refine ⟨h.whole.ownGrown hG (fun e=>by have:=hlt g e;omega),World.ownsRow.kept h.starts hG (ownsRow_apartH h.starts h.syms (by decide)),hB,h.lens.below hB (by omega),h.words.below hB (by omega)⟩
theorem TabS.appH (h:TabS w g A1 c1 A2 c2 v3 v4 l L T)(hG:w.grownBy w' v4.ownBlock):Whole w' g 152 #[.slice A1 l.length c1,.slice A2 l.length c2,v3,v4]∧OwnI w' (g+1) v3 L∧Below (g+1) w w'∧Bytes w' g A1 l.length l∧H16At w' g A2 l.length (codesL l):=by
 have hlt:=h.starts.lt
 have hB:Below (g+1) w w':=Below.grown (Below.refl (g+1) w) hG h.whole.lt (fun k hk=>(hlt k hk).1)
 refine ⟨h.whole.ownGrown hG (fun e=>by have:=hlt g e;omega),World.ownsRow.kept h.syms hG (ownsRow_apartH h.syms h.starts (by decide)),hB,h.lens.below hB (by omega),h.words.below hB (by omega)⟩
theorem tabS_store (hW:Whole w' g 152 #[.slice A1 l.length c1,.slice A2 l.length c2,v3',v4'])(hG:w.grownBy w' (some g))(h3:OwnI w (g+1) v3' L)(h4:OwnH w (g+1) v4' T)(h1:Bytes w g A1 l.length l)(h2:H16At w g A2 l.length (codesL l))(hg:g≤w.heap.size) :
  TabS w' g A1 c1 A2 c2 v3' v4' l L T∧Below g w w':=by
 have hB:Below g w w':=Below.grown (Below.refl g w) hG hg (fun k hk=>by cases hk;omega)
 refine ⟨⟨hW,World.ownsRow.kept h3 hG ?_,World.ownsRow.kept h4 hG ?_,h1.below hB (Nat.le_refl _),h2.below hB (Nat.le_refl _)⟩,hB⟩
 ·cases hv:v3'.ownBlock with
  | none=>simp
  | some k=>have:=h3.lt k hv;simp;omega
 ·cases hv:v4'.ownBlock with
  | none=>simp
  | some k=>have:=h4.lt k hv;simp;omega
end
end Go.Proofs.YtaogpmombefmmaaGreatDoor
namespace Go.Proofs.YtaogpmombefmmaaGreatDoor
open Go.RowKit Len Can Huf
section
variable {w w':World}{B n r:Nat}{A:Option Addr}
theorem cell_off (hG:w.grownBy w' (some r)){b i:Nat}{v:Value}(hc:w.cell? ⟨b,i,none⟩=some v)(hb:r < b):w'.cell? ⟨b,i,none⟩=some v :=
 (World.cell?_of_block (a:=⟨b,i,none⟩) (hG.block b (World.block_lt_of_cell? w _ hc) (by simp;omega))).trans hc
theorem bytes_off {l:List UInt8}(h:Bytes w B A n l)(hG:w.grownBy w' (some r))(hl:∀ b o,A=some ⟨b,o,none⟩→r < b):Bytes w' B A n l:=by
 refine ⟨h.1,h.2.imp_right fun ⟨b,o,hA,hB,hc⟩=>⟨b,o,hA,hB,fun i hi=>cell_off hG (hc i hi) (hl b o hA)⟩⟩
theorem h16_off {L:List Nat}(h:H16At w B A n L)(hG:w.grownBy w' (some r))(hl:∀ b o,A=some ⟨b,o,none⟩→r < b):H16At w' B A n L:=by
 refine ⟨h.1,h.2.imp_right fun ⟨b,o,hA,hB,hc⟩=>⟨b,o,hA,hB,fun i hi=>cell_off hG (hc i hi) (hl b o hA)⟩⟩
theorem ints_off {L:List Int}(h:IntsAt w B A n L)(hG:w.grownBy w' (some r))(hl:∀ b o,A=some ⟨b,o,none⟩→r < b):IntsAt w' B A n L:=by
 refine ⟨h.1,h.2.imp_right fun ⟨b,o,hA,hB,hc⟩=>⟨b,o,hA,hB,fun i hi=>cell_off hG (hc i hi) (hl b o hA)⟩⟩
theorem ints_mono {C:Nat}{L:List Int}(h:IntsAt w B A n L)(hC:B≤C):IntsAt w C A n L :=
 ⟨h.1,h.2.imp_right fun ⟨b,o,hA,hB,hc⟩=>⟨b,o,hA,Nat.lt_of_lt_of_le hB hC,hc⟩⟩
end
structure Tabs (w:World)(lo hi:Nat)(A1 A2 A3 A4:Option Addr)(l:List UInt8)(O:List Nat):Prop where
 lens:Bytes w hi A1 l.length l
 words:H16At w hi A2 l.length (codesL l)
 syms:IntsAt w hi A3 O.length (O.map fun s:Nat=>(s:Int))
 starts:H16At w hi A4 O.length (starts l O)
 ord:Ord l 16 0 O
 low1:∀ b o,A1=some ⟨b,o,none⟩→lo≤b
 low2:∀ b o,A2=some ⟨b,o,none⟩→lo≤b
 low3:∀ b o,A3=some ⟨b,o,none⟩→lo≤b
 low4:∀ b o,A4=some ⟨b,o,none⟩→lo≤b
def TabTo (w:World)(l:List UInt8)(e:Ending)(w':World):Prop :=
 (right l=true→∃ A1 c1 A2 c2 A3 c3 A4 c4 O,e=.returned (.tuple #[.agg #[.slice A1 l.length c1,.slice A2 l.length c2,.slice A3 O.length c3,.slice A4 O.length c4],.int .i64 0])∧Tabs w' w.heap.size w'.heap.size A1 A2 A3 A4 l O) ∧
  (right l=false→e=.returned (.tuple #[.agg #[.slice none 0 0,.slice none 0 0,.slice none 0 0,.slice none 0 0],.int .i64 7]))∧Ext w w'
theorem tab_info:(Tryz.prog.info? 152).map (·.size)=some 4:=by kernel_rfl
theorem four_slices (A1:Option Addr)(n1 c1:Nat)(A2:Option Addr)(n2 c2:Nat)(A3:Option Addr)(n3 c3:Nat)(A4:Option Addr)(n4 c4:Nat):(#[.slice A1 n1 c1,.slice A2 n2 c2,.slice A3 n3 c3,.slice A4 n4 c4]:Array Value).all (·.oneCell')=true:=by
 simp
 exact ⟨rfl,rfl,rfl,rfl⟩
set_option maxHeartbeats 4000000 in
set_option maxRecDepth 100000 in
theorem tableOf_any (A:Option Addr)(n c:Nat)(l:List UInt8)(w:World)(hc:n≤c)(h:Bytes w w.heap.size A n l):Calls Tryz.prog 110 #[.slice A n c] w (TabTo w l):=by
 have hl:=h.1
 subst hl
 have hE1:=extNew w (.cells #[.slice none 0 0,.slice none 0 0,.slice none 0 0,.slice none 0 0] 152)
 have hR1:=Whole.new w 152 #[.slice none 0 0,.slice none 0 0,.slice none 0 0,.slice none 0 0]
 have C1:=codes_any A l.length c l _ (hE1.bytes h)
 cases hr:right l with
 | false =>
  have HR:=hide hr
  rw [show codesE l=([],7) by unfold codesE;rw [hr];rfl] at C1
  clear h hr
  go_enter Tryz.func110,Tryz.ntmps110
  go_wp2_with fail
  refine C1.mono ?_
  rintro e w2 ⟨v,rfl,hO,hE2⟩
  obtain ⟨A2,c2,rfl,_⟩:=hO.reads
  have hR2:=hR1.ext hE2
  clear C1 hO
  go_wp2_with (refine wpList_storeW rfl 152 (.tmp 2) (.tmp 16) rfl rfl rfl hR2 rfl tab_info (four_slices ..) ?_;intro w5 hR5 hG5 _)
  refine bodyPost_ret (results_row2 rfl _ rfl rfl (run_loadVar_row _ _ _ _ _ _ _ hR5 Tryz.underlying152 rfl tab_info)) rfl ?_
  have hE:=hE1.trans hE2
  exact ⟨(fun h=>by rw [HR.out] at h;cases h),fun _=>rfl,Below.grown hE hG5 hE.le (fun k hk=>by cases hk;exact Nat.le_refl _)⟩
 | true =>
  have HR:=hide hr
  have hl300:=(right_facts hr).1
  rw [show codesE l=(codesL l,0) by unfold codesE;rw [hr];rfl] at C1
  have HB:=hide (hE1.bytes h)
  have HL:=hide (codesL_len l)
  clear h hr
  go_enter Tryz.func110,Tryz.ntmps110
  go_wp2_with fail
  refine C1.mono ?_
  rintro e w2 ⟨v,rfl,hO,hE2⟩
  obtain ⟨A2,c2,rfl,h2c,h2m,h2⟩:=hO.reads
  have HLow2:=hide (ownsRow_low hO)
  rw [HL.out] at h2 h2c
  have H2:=hide h2
  rw [HL.out]
  have hR2:=hR1.ext hE2
  have C2:=sliceClone8_any A l.length c l w2 hc (by omega) (hE2.bytes HB.out)
  clear C1 hO h2
  go_wp2_with fail
  refine C2.mono ?_
  rintro e w3 ⟨v,rfl,hO3,hE3⟩
  obtain ⟨A1,c1,rfl,h1c,h1m,h1⟩:=hO3.form
  have HLow1:=hide (ownsRow_low hO3)
  have hR3:=hR2.ext hE3
  have h2w:=H2.out.below hE3 (Nat.le_refl _)
  have h2v:=h2w.mono hE3.le
  have hF3:=(hE1.trans hE2).trans hE3
  have hle1:w.heap.size < w2.heap.size:=by have:=hE2.le;rw [World.size_alloc] at this;omega
  have hle2:=hE2.le
  have hle3:=hE3.le
  have Hle:=hide (And.intro hle1 (And.intro hle2 hle3))
  have hlt3:w.heap.size < w3.heap.size:=by omega
  clear C2 hO3 hR1 hR2 hE1 hE2 hE3 h2w hle1 hle2 hle3
  obtain ⟨g,hg⟩:∃ g,g=w3.heap.size:=⟨_,rfl⟩
  have hE4:=extNew w3 (.cells #[.slice none 0 0,.slice none 0 0,.slice none 0 0,.slice none 0 0] 152)
  have hW4:=Whole.new w3 152 #[.slice none 0 0,.slice none 0 0,.slice none 0 0,.slice none 0 0]
  have hR4:=hR3.ext hE4
  have hF4:=hF3.trans hE4
  have h1':Bytes (w3.alloc (.cells #[.slice none 0 0,.slice none 0 0,.slice none 0 0,.slice none 0 0] 152)) g A1 l.length l:=by rw [hg];exact h1.below hE4 (Nat.le_refl _)
  have h2':H16At (w3.alloc (.cells #[.slice none 0 0,.slice none 0 0,.slice none 0 0,.slice none 0 0] 152)) g A2 l.length (codesL l):=by rw [hg];exact h2v.below hE4 (Nat.le_refl _)
  have HG:=hide hg
  rw [← hg] at hW4
  have hgw:w.heap.size < g:=by omega
  clear h1 h2v hF3 hR3 hE4 hg hlt3
  go_wp2_with (refine wpList_storeW rfl 152 (.tmp 6) (.tmp 21) rfl (by rw [HG.out];rfl) rfl hW4 rfl tab_info (four_slices ..) ?_;intro w5 hW5 hG5 hS5;clear hS5)
  rw [← HG.out]
  have hT5:=(tabS_store hW5 hG5 (OwnI.nil _ (g+1)) (OwnH.nil _ (g+1)) h1' h2' (by rw [World.size_alloc,HG.out];omega)).1
  have hF5:Ext w w5:=Below.grown hF4 hG5 hF4.le (fun k hk=>by cases hk;omega)
  have hR5:=hR4.grown hG5 (by omega)
  clear hW5 hG5 hW4 hR4 hF4 h1' h2'
  have H15:=hide (right_facts HR.out).2.1
  have HWl:=hide (show ∀ s,s < l.length→word l s < 2 ^ 15 from fun s hs=>word_lt HR.out hs)
  go_loopw [7] (fun x wr=>∃ k v3 v4 O,1≤k∧k≤16∧x=.int .i64 ((k:Nat):Int)∧TabS wr g A1 c1 A2 c2 v3 v4 l (O.map fun s:Nat=>(s:Int)) (starts l O)∧Ord l k 0 O∧Whole wr w.heap.size 152 #[.slice none 0 0,.slice none 0 0,.slice none 0 0,.slice none 0 0]∧Ext w wr) (fun x _=>17-(intOf x).toNat)
  case atStart=>exact ⟨1,_,_,[],by omega,by omega,rfl,hT5,Ord.start,hR5,hF5⟩
  case round =>
   clear hT5 hF5 hR5
   obtain ⟨k,v3,v4,O,hk1,hk16,rfl,hT,hO,hR,hE⟩:=hrel
   by_cases hk:k≤15
   ·have hkI:(k:Int)≤15:=by omega
    obtain ⟨wa,rfl⟩:∃ W,W=wr:=⟨_,rfl⟩
    go_wp2_with fail
    go_loopw [28] (fun x wr=>∃ i v3 v4 O,i≤l.length∧x=.int .i64 ((i:Nat):Int)∧TabS wr g A1 c1 A2 c2 v3 v4 l (O.map fun s:Nat=>(s:Int)) (starts l O)∧Ord l k i O∧Whole wr w.heap.size 152 #[.slice none 0 0,.slice none 0 0,.slice none 0 0,.slice none 0 0]∧Ext w wr) (fun x _=>l.length-(intOf x).toNat)
    case atStart=>exact ⟨0,v3,v4,O,by omega,rfl,hT,hO,hR,hE⟩
    case round =>
     clear hT hO hR hE
     obtain ⟨i,v3,v4,O,hi,rfl,hT,hO,hR,hE⟩:=hrel
     by_cases hlt:i < l.length
     ·have hltI:(i:Int) < (l.length:Int):=by omega
      have CL:=hlength_any (hT.whole.at 0 rfl) hT.lens (i:Int)
      rw [lenX_at hlt] at CL
      by_cases hy:lenAt l i=k
      ·have hyb:((lenAt l i:Int) == (k:Int))=true:=by simp [hy]
       have hOn:=hO.put hk1 hlt hy
       have hlenO:=hO.len_300 HR.out
       have HOn:=hide hOn
       have hwl:=HWl.out i hlt
       have hst:startOf l i=word l i*2 ^ (15-k):=by unfold startOf;rw [hy]
       have hst2:startOf l i < 32768:=by
        have h1:=startOf_lt HR.out hlt (by omega)
        have h2:0 < 2 ^ (15-lenAt l i):=Nat.pow_pos (by omega)
        omega
       have HT:=hide hT
       have hEa:=extNew wr (.cells #[.int .i64 (i:Int)] 3)
       have hTa:=hT.ext hEa
       have d2:wr.cell? ⟨g,2,none⟩=some v3:=hT.whole.at 2 rfl
       have hi1:(Tryz.prog.info? 42).map (·.size)=some 1:=by kernel_rfl
       have hlen1:(O.map fun s:Nat=>(s:Int)).length≤1000000:=by rw [List.length_map];omega
       have hb1:g+1≤wr.heap.size:=hT.whole.lt
       have hln:((O.map fun s:Nat=>(s:Int))++[(i:Int)]).length=O.length+1:=by simp
       rcases hT.words.2 with h0 | ⟨b2,o2,rfl,hb2,hc2⟩
       ·omega
       have e2:=hc2 i hlt
       rw [codesL_at hlt] at e2
       clear hT hO hOn hc2
       have HY:=hide hy
       clear hy
       generalize lenAt l i=y at *
       go_wp2_with fail
       refine CL.mono ?_
       rintro e w' ⟨rfl,rfl⟩
       clear CL
       go_wp2_with (first
        | (at_builtin;refine wpList_appIB rfl (.tmp 36) (.tmp 38) rfl rfl (i:Int) hTa.syms rfl hlen1 hb1 ?_;intro v6 w6 hO6 hG6;obtain ⟨hW6,hH6,hB6,hl6,hw6⟩:=hTa.appI hG6;obtain ⟨A3,c3,rfl,h3c,h3⟩:=hO6.form;rw [hln] at hO6)
        | (refine wpList_storeC (u:=.slice A3 (O.length+1) c3) rfl 42 (.tmp 40) (.tmp 39) rfl _ rfl rfl hW6 (by simp) hi1 rfl rfl rfl ?_;intro w7 hW7 hG7))
       obtain ⟨hT7,hB7⟩:=tabS_store hW7 hG7 hO6 hH6 hl6 hw6 (Nat.le_of_lt hW6.lt)
       have hB67:Below g wr w7:=((Below.mono hEa (Nat.le_of_succ_le hb1)).trans (Below.mono hB6 (by omega))).trans hB7
       have hR7:=hR.below hB67 hgw
       have hF7:Ext w w7:=Below.trans hE (Below.mono hB67 (Nat.le_of_lt hgw))
       have e7:w7.cell? ⟨b2,o2+i,none⟩=some (.int .u16 ((word l i:Nat):Int)):=(hB67.cell (p:=⟨b2,o2+i,none⟩) hb2).trans e2
       have d3:w7.cell? ⟨g,3,none⟩=some v4:=hT7.whole.at 3 rfl
       have hsv:IntKind.u16.wrap ((word l i:Int)*2 ^ (15-k))=((startOf l i:Nat):Int):=by
        have e:(word l i:Int)*2 ^ (15-k)=((startOf l i:Nat):Int):=by rw [hst];simp
        rw [e]
        simp [IntKind.wrap,IntKind.bits,IntKind.signed]
        omega
       have hsh:IntKind.i64.wrap (15-(k:Int))=15-(k:Int):=IntWalk.i64_in _ (by omega)
       have hsh0:(0:Int)≤15-(k:Int):=by omega
       have hsh1:(15-(k:Int)).toNat=15-k:=by omega
       have hEb:=extNew w7 (.cells #[.int .u16 ((startOf l i:Nat):Int)] 131)
       have d3':(w7.alloc (.cells #[.int .u16 ((startOf l i:Nat):Int)] 131)).cell? ⟨g,3,none⟩=some v4:=(hT7.whole.ext hEb).at 3 rfl
       have hT8:=hT7.ext hEb.drew
       have hc8:(w7.alloc (.cells #[.int .u16 ((startOf l i:Nat):Int)] 131)).drew.cell? ⟨w7.heap.size,0,none⟩=some (.int .u16 ((startOf l i:Nat):Int)):=cellNew w7 _ _ _ 0
       have hlen2:(starts l O).length≤1000000:=by rw [starts_len];omega
       have hb2':g+1≤(w7.alloc (.cells #[.int .u16 ((startOf l i:Nat):Int)] 131)).drew.heap.size:=hT8.whole.lt
       have hi2:(Tryz.prog.info? 93).map (·.size)=some 1:=by kernel_rfl
       have HST:=hide (starts_snoc l O i)
       have HMP:=hide (show (O++[i]).map (fun s:Nat=>(s:Int))=(O.map fun s:Nat=>(s:Int))++[(i:Int)] by simp)
       have hltI2:(0:Int)≤(i:Int):=by omega
       clear hln hst hst2 hTa hEa d2 hb1 e2 hW6 hH6 hB6 hl6 hw6 hO6 hG6 hW7 hG7 hB7 hR hE hlen1 hi1 h3
       generalize startOf l i=p at *
       generalize word l i=x at *
       have HLn:=hide (show (starts l O++[p]).length=(starts l O).length+1 by simp)
       go_region_law (refine step_app16 rfl (.tmp 42) (.tmp 50) rfl rfl hT8.starts rfl rfl hc8 hlen2 hb2' ?_;intro v9 w9 hO9 hG9';have hG9:(w7.alloc (.cells #[.int .u16 (p:Int)] 131)).drew.grownBy w9 v4.ownBlock:=hG9';clear hG9';obtain ⟨hW9,hS9,hB9,hl9,hw9⟩:=hT8.appH hG9;obtain ⟨A4,c4,hv9,_⟩:=OwnH.form hO9;rw [HLn.out] at hv9;subst hv9;have e9:=hW9.at 3 rfl;have f9:=hW9.frozen 3)
       all_goals (
        have hG10:=grown_setCell w9 g 3 (.slice A4 ((starts l O).length+1) c4)
        have hW10:Whole (w9.setCell ⟨g,3,none⟩ (.slice A4 ((starts l O).length+1) c4)) g 152 #[.slice A1 l.length c1,.slice (some ⟨b2,o2,none⟩) l.length c2,.slice A3 (O.length+1) c3,.slice A4 ((starts l O).length+1) c4]:=hW9.set 3 _
        obtain ⟨hT10,hB10⟩:=tabS_store hW10 hG10 hS9 hO9 hl9 hw9 (Nat.le_of_lt hW9.lt)
        have hB79:Below g w7 (w9.setCell ⟨g,3,none⟩ (.slice A4 ((starts l O).length+1) c4)):=((Below.mono hEb.drew (Nat.le_of_lt hT7.whole.lt)).trans (Below.mono hB9 (by omega))).trans hB10
        have hR10:=hR7.below hB79 hgw
        have hF10:Ext w (w9.setCell ⟨g,3,none⟩ (.slice A4 ((starts l O).length+1) c4)):=Below.trans hF7 (Below.mono hB79 (Nat.le_of_lt hgw))
        rw [← HMP.out,← HST.out] at hT10
        have HT10:=hide hT10
        clear hG10 hW10 hT10 hB10 hB79 hW9 hS9 hB9 hl9 hw9 hO9 hG9 e9 f9
        go_wp2
        go_roundw
        case rel=>exact ⟨i+1,_,_,O++[i],by omega,by go_num,HT10.out,HOn.out,hR10,hF10⟩
        case measure=>simp [intOf];omega)
      ·have hyb:((lenAt l i:Int) == (k:Int))=false:=by rw [beq_eq_false_iff_ne];omega
       have HOn:=hide (hO.pass hk1 hlt hy)
       have HT:=hide hT
       clear hT hO hy
       generalize lenAt l i=y at *
       go_wp2_with fail
       refine CL.mono ?_
       rintro e w' ⟨rfl,rfl⟩
       clear CL
       go_wp2
       go_roundw
       case rel=>exact ⟨i+1,v3,v4,O,by omega,by go_num,HT.out,HOn.out,hR,hE⟩
       case measure=>simp [intOf];omega
     ·obtain rfl:l.length=i:=by omega
      have HOn:=hide hO.turn
      have HT:=hide hT
      clear hT hO
      go_wp2
      go_roundw
      case rel=>exact ⟨k+1,v3,v4,O,by omega,by omega,by go_num,HT.out,HOn.out,hR,hE⟩
      case measure=>simp [intOf];omega
   ·obtain rfl:k=16:=by omega
    obtain ⟨A3,c3,rfl,h3c,h3⟩:=hT.syms.form
    obtain ⟨A4,c4,rfl,h4c,h4m,h4⟩:=OwnH.reads hT.starts
    have HLow3:=hide (ownsRow_low hT.syms)
    have HLow4:=hide (ownsRow_low hT.starts)
    rw [List.length_map] at h3 h3c
    rw [starts_len] at h4 h4c
    have hW:=hT.whole
    rw [List.length_map,starts_len] at hW
    have HT:=hide (And.intro hT.lens hT.words)
    have H3:=hide h3
    have H4:=hide h4
    have HO:=hide hO
    clear hT h3 h4 hO
    go_wp2_with (first
     | (refine wpList_load_row rfl 152 (.tmp 6) rfl _ rfl _ _ _ _ hW Tryz.underlying152 rfl tab_info ?_)
     | (refine wpList_storeW rfl 152 (.tmp 2) (.tmp 54) rfl rfl rfl hR rfl tab_info (four_slices ..) ?_;intro w5 hR5 hG5 hS5))
    refine bodyPost_ret (results_row2 rfl _ rfl rfl (run_loadVar_row _ _ _ _ _ _ _ hR5 Tryz.underlying152 rfl tab_info)) rfl ?_
    obtain ⟨k1,k2,k3⟩:=Hle.out
    have l1:∀ b o,A1=some ⟨b,o,none⟩→w.heap.size < b:=fun b o e=>by have:=HLow1.out b o e;omega
    have l2:∀ b o,A2=some ⟨b,o,none⟩→w.heap.size < b:=fun b o e=>by have:=HLow2.out b o e;rw [World.size_alloc] at this;omega
    have l3:∀ b o,A3=some ⟨b,o,none⟩→w.heap.size < b:=fun b o e=>by have:=HLow3.out b o e;omega
    have l4:∀ b o,A4=some ⟨b,o,none⟩→w.heap.size < b:=fun b o e=>by have:=HLow4.out b o e;omega
    have hgl:=hW.lt
    have hsz:=hG5.size
    refine ⟨fun _=>⟨_,_,_,_,_,_,_,_,O,rfl,⟨(bytes_off HT.out.1 hG5 l1).mono (by omega),(h16_off HT.out.2 hG5 l2).mono (by omega),ints_mono (ints_off H3.out hG5 l3) hsz,(h16_off H4.out hG5 l4).mono hsz,HO.out,fun b o e=>Nat.le_of_lt (l1 b o e),fun b o e=>Nat.le_of_lt (l2 b o e),fun b o e=>Nat.le_of_lt (l3 b o e),fun b o e=>Nat.le_of_lt (l4 b o e)⟩⟩,(fun h=>by rw [HR.out] at h;cases h),Below.grown hE hG5 hE.le (fun k hk=>by cases hk;exact Nat.le_refl _)⟩
end Go.Proofs.YtaogpmombefmmaaGreatDoor
