/- Frames, as values: what is written is read. Plain mathematics of chapter 12. Chapter 21: archives of version 1, as plain mathematics. Chapter 21: the document's Flag and Join. The document's Head of chapter 12. What follows of frames: read  -/
import Derived.Test.YtaogpmombefmmaaGreatDoorB02
import Derived.Test.YtaogpmombefmmaaGreatDoorB03
import Derived.Test.YtaogpmombefmmaaGreatDoorB04
import Derived.Test.YtaogpmombefmmaaGreatDoorB07
import Derived.Test.YtaogpmombefmmaaGreatDoorB09
import Derived.Test.YtaogpmombefmmaaGreatDoorB14
import Derived.Test.YtaogpmombefmmaaGreatDoorB17
import Derived.Test.YtaogpmombefmmaaGreatDoorB18
import Derived.OwnWalk
namespace Go.Proofs.YtaogpmombefmmaaGreatDoor.Blk
open Num Lz Tok
def squeeze (b:List UInt8):List UInt8:=Bit.pack (writeB (toks b 0))
def useS (b:List UInt8)(plain:Bool):Bool:=!plain && decide ((squeeze b).length < b.length)
def wayOf (b:List UInt8)(plain:Bool):Nat:=if useS b plain then 1 else 0
def bodyOf (b:List UInt8)(plain:Bool):List UInt8:=if useS b plain then squeeze b else b
def headB (b:List UInt8)(plain:Bool):List UInt8:=UInt8.ofNat (wayOf b plain) :: (enc b.length++enc (bodyOf b plain).length)
def frame (b:List UInt8)(plain:Bool):List UInt8:=Crc.put (headB b plain++bodyOf b plain)
def writeF (b:List UInt8)(plain:Bool):List UInt8×Int:=if 32768 < b.length then ([],6) else (frame b plain,0)
theorem body_le (b:List UInt8)(plain:Bool):(bodyOf b plain).length≤b.length:=by
 unfold bodyOf useS
 split
 ·rename_i h
  rw [Bool.and_eq_true,decide_eq_true_iff] at h
  omega
 ·exact Nat.le_refl _
end Go.Proofs.YtaogpmombefmmaaGreatDoor.Blk
namespace Go.Proofs.YtaogpmombefmmaaGreatDoor
theorem IntsAt.cellQ {w:World}{B n i:Nat}{A:Option Addr}{L:List Int}(h:IntsAt w B A n L)(hi:i < n):∃ b o,A=some ⟨b,o,none⟩∧w.cell? ⟨b,o+i,none⟩=some (.int .i64 (L.getD i 0))∧b < B:=by
 rcases h.2 with h0 | ⟨b,off,rfl,hb,hc⟩
 ·omega
 ·exact ⟨b,off,rfl,hc i hi,hb⟩
namespace Arc
open Num Rcs
def upTo (gs:List Nat)(j:Nat):Nat:=(gs.take j).sum
theorem upTo_next {gs:List Nat}{j:Nat}(h:j < gs.length):upTo gs (j+1)=upTo gs j+gs.getD j 0:=by
 unfold upTo
 rw [List.take_succ_eq_append_getElem h,List.sum_append,List.getD_eq_getElem?_getD,List.getElem?_eq_getElem h]
 simp
theorem upTo_zero (gs:List Nat):upTo gs 0=0:=by simp [upTo]
theorem upTo_step (gs:List Nat)(j:Nat):upTo gs j≤upTo gs (j+1):=by
 by_cases h:j < gs.length
 ·rw [upTo_next h];omega
 ·unfold upTo
  rw [List.take_of_length_le (by omega),List.take_of_length_le (by omega)]
  omega
theorem upTo_mono (gs:List Nat){i j:Nat}(h:i≤j):upTo gs i≤upTo gs j:=by
 induction j with
 | zero =>
  obtain rfl:i=0:=by omega
  omega
 | succ j ih =>
  by_cases hi:i=j+1
  ·subst hi;omega
  ·exact Nat.le_trans (ih (by omega)) (upTo_step gs j)
def frameAt (plain:Bool)(l:List Rc)(gs:List Nat)(j:Nat):List UInt8:=(Blk.writeF (bytesB true ((l.drop (upTo gs j)).take (gs.getD j 0))) plain).1
def framesTo (plain:Bool)(l:List Rc)(gs:List Nat)(j:Nat):List (List UInt8):=(List.range j).map (frameAt plain l gs)
theorem frames_next (plain:Bool)(l:List Rc)(gs:List Nat)(j:Nat):framesTo plain l gs (j+1)=framesTo plain l gs j++[frameAt plain l gs j]:=by
 unfold framesTo
 rw [List.range_succ,List.map_append]
 rfl
theorem frames_len (plain:Bool)(l:List Rc)(gs:List Nat)(j:Nat):(framesTo plain l gs j).length=j:=by simp [framesTo]
theorem flat_next (plain:Bool)(l:List Rc)(gs:List Nat)(j:Nat):(framesTo plain l gs (j+1)).flatten=(framesTo plain l gs j).flatten++frameAt plain l gs j:=by rw [frames_next];simp
def groupsN (b:Int)(l:List Rc):List Nat:=groupsE b true l
def flagB (plain:Bool):UInt8:=if plain=true then 1 else 0
def headE (b:Nat)(f:UInt8)(records blocks:Nat):List UInt8:=[70,73,82,75,1]++enc b++[f]++enc records++enc blocks
def joinE (b:Nat)(f:UInt8)(records blocks:Nat)(fs:List (List UInt8)):List UInt8:=Crc.put (headE b f records blocks++fs.flatten)
def packE (b:Int)(plain:Bool)(k d y c:Int)(l:List Rc):List UInt8×Int :=
 if Opt.chk 1 b k d y c≠0 then ([],Opt.chk 1 b k d y c) else if checkE l≠0 then ([],6) else
  (joinE b.toNat (flagB plain) l.length (groupsN b l).length (framesTo plain l (groupsN b l) (groupsN b l).length),0)
theorem groups_sum {size:Int}{whole:Bool}{l:List Rc}:∀ (f i:Nat),l.length-i≤f→(groupsAt size whole l i).sum=l.length-i
 | f,i,hf=>by
  by_cases h:i < l.length
  ·obtain ⟨h1,h2⟩:=groups_step (size:=size) (whole:=whole) h
   have hn:1≤groupN size whole l i:=by unfold groupN;omega
   rw [h1,List.sum_cons]
   match f,hf with
   | 0,hf=>omega
   | f+1,hf =>
    rw [groups_sum f (i+groupN size whole l i) (by omega)]
    omega
  ·rw [groups_end (by omega)]
   simp
   omega
theorem groups_all (b:Int)(l:List Rc):upTo (groupsN b l) (groupsN b l).length=l.length:=by
 have h:=groups_sum (size:=if b < 1 then 1 else b) (whole:=true) (l:=l) l.length 0 (by omega)
 unfold upTo
 rw [List.take_length]
 unfold groupsN groupsE
 unfold groupsAt at h
 simpa using h
theorem groupsF_len (whole:Bool)(size:Int):∀ (f:Nat) (l:List Rc),(groupsF whole size f l).length≤f
 | 0,_=>by simp [groupsF]
 | _+1,[]=>by simp [groupsF]
 | f+1,r :: t=>by
  rw [groupsF,List.length_cons]
  have:=groupsF_len whole size f (t.drop (moreG whole size (oneB whole r).length t))
  omega
theorem groups_few (b:Int)(l:List Rc):(groupsN b l).length≤l.length:=groupsF_len _ _ _ _
theorem groups_ints (b:Int)(l:List Rc):groupsI b true l=(groupsN b l).map fun (n:Nat)=>(n:Int):=rfl
theorem part_le (b:Int)(l:List Rc){j:Nat}(h:j < (groupsN b l).length):upTo (groupsN b l) j+(groupsN b l).getD j 0≤l.length:=by
 rw [← upTo_next h,← groups_all b l]
 exact upTo_mono (groupsN b l) (by omega)
theorem bytes_twice (whole:Bool):∀ l:List Rc,(bytesB whole l).length≤2*weightE l
 | []=>by simp [bytesB]
 | r :: t=>by
  have h1:=bytes_twice whole t
  have h2:=one_len whole r
  have e:weightE (r :: t)=16+r.src.length+r.text.length+weightE t:=by unfold weightE;simp
  unfold bytesB at h1 ⊢
  rw [List.flatMap_cons,List.length_append,e]
  omega
theorem weight_app (a b:List Rc):weightE (a++b)=weightE a+weightE b:=by simp [weightE]
theorem weight_part (l:List Rc)(i n:Nat):weightE ((l.drop i).take n)≤weightE l:=by
 have h1:=weight_app (l.take i) (l.drop i)
 have h2:=weight_app ((l.drop i).take n) ((l.drop i).drop n)
 rw [List.take_append_drop] at h1 h2
 omega
theorem put_len (l:List UInt8):(Crc.put l).length=l.length+4:=by unfold Crc.put;simp [Crc.tail]
theorem write_ok {l:List Rc}(h:weightE l≤1500)(plain:Bool):(Blk.writeF (bytesB true l) plain).2=0∧(Blk.writeF (bytesB true l) plain).1.length≤4000:=by
 have hb:=bytes_twice true l
 have hlt:¬ 32768 < (bytesB true l).length:=by omega
 have h1:=enc_len (bytesB true l).length
 have h2:=enc_len (Blk.bodyOf (bytesB true l) plain).length
 have h3:=Blk.body_le (bytesB true l) plain
 unfold Blk.writeF
 rw [if_neg hlt]
 refine ⟨rfl,?_⟩
 dsimp only
 unfold Blk.frame Blk.headB
 rw [put_len]
 simp only [List.length_append,List.length_cons]
 omega
theorem flat_le {k:Nat}:∀ ls:List (List UInt8),(∀ s,s∈ls→s.length≤k)→ls.flatten.length≤k*ls.length
 | [],_=>by simp
 | s :: t,h=>by
  have h1:=h s (by simp)
  have h2:=flat_le t fun s hs=>h s (by simp [hs])
  rw [List.flatten_cons,List.length_append,List.length_cons,Nat.mul_add]
  omega
theorem frame_small {l:List Rc}(h:weightE l≤1500)(plain:Bool)(gs:List Nat)(j:Nat):(frameAt plain l gs j).length≤4000 :=
 (write_ok (Nat.le_trans (weight_part l _ _) h) plain).2
theorem frames_small {l:List Rc}(h:weightE l≤1500)(plain:Bool)(gs:List Nat)(j:Nat):∀ s,s∈framesTo plain l gs j→s.length≤4000:=fun s hs=>by
 obtain ⟨i,_,rfl⟩:=List.mem_map.1 hs
 exact frame_small h plain gs i
theorem flat_small {l:List Rc}(h:weightE l≤1500)(plain:Bool)(gs:List Nat)(j:Nat):(framesTo plain l gs j).flatten.length≤4000*j:=by
 have:=flat_le _ (frames_small h plain gs j)
 rw [frames_len] at this
 exact this
theorem len_small {l:List Rc}(h:weightE l≤1500):l.length≤93:=by
 have:=weight_len l
 omega
theorem head_len (b:Nat)(f:UInt8)(records blocks:Nat):(headE b f records blocks).length≤36:=by
 have h1:=enc_len b
 have h2:=enc_len records
 have h3:=enc_len blocks
 unfold headE
 simp only [List.length_append,List.length_cons,List.length_nil]
 omega
theorem chk_facts {b k d y c:Int}(h:Opt.chk 1 b k d y c=0):16≤b∧b≤32768:=by
 unfold Opt.chk at h
 rw [if_pos (by omega)] at h
 split at h
 ·rename_i hm
  unfold Opt.MayE at hm
  omega
 ·simp at h
theorem chk_not {l:List Rc}(h:checkE l≠0):checkE l=6:=by
 unfold checkE at *
 split at h
 ·simp at h
 ·rename_i hn
  rw [if_neg hn]
theorem pack_none:packE 16 false 0 0 0 0 []=(Crc.put [70,73,82,75,1,16,0,0,0],0):=by decide +kernel
end Arc
end Go.Proofs.YtaogpmombefmmaaGreatDoor
namespace Go.Proofs.YtaogpmombefmmaaGreatDoor
open Go.RowKit Arc
theorem refFlag21_any (p:Bool)(w:World):Calls Tryz.prog 22 #[.bool p] w fun e w'=>e=.returned (.int .u8 ((flagB p).toNat:Int))∧Ext w w':=by
 cases p
 ·go_enter Tryz.func22,Tryz.ntmps22
  go_wp2
  go_ret
  exact ⟨rfl,Ext.refl _⟩
 ·go_enter Tryz.func22,Tryz.ntmps22
  go_wp2
  go_ret
  exact ⟨rfl,Ext.refl _⟩
set_option maxHeartbeats 8000000 in
set_option maxRecDepth 100000 in
theorem refJoin21_any (b r g:Nat)(f:UInt8)(Af:Option Addr)(cf:Nat)(fs:List (List UInt8))(w:World)(hP:Parts w w.heap.size Af g fs)(hb:b≤1000000)(hr:r≤1000000)(hg:g≤1000)(hfl:fs.flatten.length≤500000) :
  Calls Tryz.prog 21 #[.int .i64 (b:Int),.int .u8 (f.toNat:Int),.int .i64 (r:Int),.int .i64 (g:Int),.slice Af g cf] w (MadeB w (joinE b f r g fs)):=by
 have hPl:=hP.1
 have HFt:=hide (fun j (hj:j < g)=>flat_take fs j (by omega))
 have HFl:=hide (fun j=>flat_take_le fs j)
 have HFe:=hide (show (fs.take g).flatten=fs.flatten by rw [List.take_of_length_le (by omega)])
 have HF0:=hide (show (fs.take 0).flatten=[] by simp)
 have HTot:=hide hfl
 have HP:=hide hP
 have CB:=fun W=>refNum_any b W (by omega)
 have CR:=fun W=>refNum_any r W (by omega)
 have CG:=fun W=>refNum_any g W (by omega)
 have hb9:(b:Int)≤1000000:=by omega
 have hb0:(0:Int)≤(b:Int):=by omega
 have hr9:(r:Int)≤1000000:=by omega
 have hr0:(0:Int)≤(r:Int):=by omega
 have hg9:(g:Int)≤1000:=by omega
 have hg0:(0:Int)≤(g:Int):=by omega
 have HHl:=hide (head_len b f r g)
 have hel1:=Num.enc_len b
 have hel2:=Num.enc_len r
 have hel3:=Num.enc_len g
 have HEl:=hide (And.intro hel1 (And.intro hel2 hel3))
 have HHd:=hide (show headE b f r g=[70,73,82,75,1]++Num.enc b++[f]++Num.enc r++Num.enc g from rfl)
 have HJ:=hide (show joinE b f r g fs=Crc.put (headE b f r g++fs.flatten) from rfl)
 have CP:=fun W A c (hb:Bytes W W.heap.size A (headE b f r g++fs.flatten).length (headE b f r g++fs.flatten))=>refCrcPut_any A _ c (headE b f r g++fs.flatten) W (by have:=HHl.out;have:=HTot.out;rw [List.length_append];omega) hb
 rw [HJ.out]
 generalize Crc.put (headE b f r g++fs.flatten)=Z at *
 generalize headE b f r g=H at *
 generalize Num.enc b=EB at *
 generalize Num.enc r=ER at *
 generalize Num.enc g=EG at *
 unfold MadeB at *
 have hX1:=extNew w (.cells #[.int .u8 70,.int .u8 73,.int .u8 82,.int .u8 75,.int .u8 1] 5)
 have hO1:=OwnB.lit w #[.int .u8 70,.int .u8 73,.int .u8 82,.int .u8 75,.int .u8 1] [70,73,82,75,1] 5 rfl rfl (by omega) (base:=w.heap.size) (Nat.le_refl _)
 have hfit2:([70,73,82,75,1]:List UInt8).length+EB.length≤140737488355328:=by simp;omega
 have hfit3:([70,73,82,75,1]++EB).length+1≤140737488355328:=by simp;omega
 have hfit4:([70,73,82,75,1]++EB++[f]).length+ER.length≤140737488355328:=by simp;omega
 have hfit5:([70,73,82,75,1]++EB++[f]++ER).length+EG.length≤140737488355328:=by simp;omega
 clear hP hPl hb hr hg hfl hel1 hel2 hel3 HJ
 go_enter Tryz.func21,Tryz.ntmps21
 go_wp2_with fail
 refine (CB _).mono ?_
 rintro e w2 ⟨v2,rfl,hO2,hE2⟩
 obtain ⟨A2,c2,rfl,-,-,hb2⟩:=hO2.form
 have hM2:=hO1.ext hE2
 have hF2:=hX1.trans hE2
 have hB2:=hF2.le
 clear hO2 hE2 CB hO1 hX1
 go_wp2_with (first
  | (at_builtin;refine wpList_app rfl (.tmp 14) (.tmp 17) rfl rfl hM2 rfl hb2 hfit2 hB2 ?_;intro v3 w3 hM3 hG3;have hF3:Ext w w3:=OwnB.below hM2 hF2 hG3 hB2;have hX3:=extNew w3 (.cells #[.int .u8 (f.toNat:Int)] 5);have hb3:=bytesNew w3 [f] #[.int .u8 (f.toNat:Int)] 5 (0,0) rfl 1 rfl;have hM4:=hM3.ext hX3;have hF4:=hF3.trans hX3;have hB4:=hF4.le;clear hG3 hM2 hF2 hB2 hb2 hM3 hF3 hX3)
  | (at_builtin;refine wpList_app rfl (.tmp 19) (.tmp 21) rfl rfl hM4 rfl hb3 hfit3 hB4 ?_;intro v5 w5 hM5 hG5;have hF5:Ext w w5:=OwnB.below hM4 hF4 hG5 hB4;clear hG5 hM4 hF4 hB4 hb3)
  | (go_at_call 40;refine (CR _).mono ?_;rintro e w6 ⟨v6,rfl,hO6,hE6⟩;obtain ⟨A6,c6,rfl,-,-,hb6⟩:=hO6.form;have hM6:=hM5.ext hE6;have hF6:=hF5.trans hE6;have hB6:=hF6.le;clear hO6 hE6 hM5 hF5 CR)
  | (at_builtin;refine wpList_app rfl (.tmp 23) (.tmp 26) rfl rfl hM6 rfl hb6 hfit4 hB6 ?_;intro v7 w7 hM7 hG7;have hF7:Ext w w7:=OwnB.below hM6 hF6 hG7 hB6;clear hG7 hM6 hF6 hB6 hb6)
  | (go_at_call 40;refine (CG _).mono ?_;rintro e w8 ⟨v8,rfl,hO8,hE8⟩;obtain ⟨A8,c8,rfl,-,-,hb8⟩:=hO8.form;have hM8:=hM7.ext hE8;have hF8:=hF7.trans hE8;have hB8:=hF8.le;clear hO8 hE8 hM7 hF7 CG)
  | (at_builtin;refine wpList_app rfl (.tmp 28) (.tmp 31) rfl rfl hM8 rfl hb8 hfit5 hB8 ?_;intro v9 w9 hM9 hG9;have hF9:Ext w w9:=OwnB.below hM8 hF8 hG9 hB8;clear hG9 hM8 hF8 hB8 hb8))
 rw [← HHd.out] at hM9
 have HM9:=hide hM9
 have HF9:=hide hF9
 clear hM9 hF9
 go_loopw [12,11] (fun z v wr=>∃ j:Nat,j≤g∧z=.int .i64 (j:Int)∧OwnB wr w.heap.size v (H++(fs.take j).flatten)∧Ext w wr) (fun z _ _=>g-(intOf z).toNat)
 case atStart=>exact ⟨0,by omega,rfl,by rw [HF0.out,List.append_nil];exact HM9.out,HF9.out⟩
 case round =>
  clear HM9 HF9
  obtain ⟨j,hj,rfl,hO,hE⟩:=hrel
  have HO:=hide hO
  have HE:=hide hE
  clear hO hE
  by_cases hlt:j < g
  ·have hjI:(j:Int) < (g:Int):=by omega
   rcases HP.out.2 with h0 | ⟨bf,of,rfl,hbf,hcs⟩
   ·omega
   obtain ⟨A',y,c',hc1,-,hrow⟩:=hcs j hlt
   have hc2:=(HE.out.cell hbf).trans hc1
   have hrw:=HE.out.bytes hrow
   have hyl:=hrow.1
   have HFj:=hide (HFt.out j hlt)
   have hlj:=HFl.out (j+1)
   rw [HFj.out,List.length_append] at hlj
   obtain ⟨F,hF⟩:∃ F,F=fs.getD j []:=⟨_,rfl⟩
   rw [← hF] at hrw hyl HFj hlj
   have hfit:(H++(fs.take j).flatten).length+y≤140737488355328:=by have:=HHl.out;have:=HTot.out;rw [List.length_append];omega
   have hOw:=HO.out
   have hEw:=HE.out
   have hBw:=hEw.le
   clear hF hcs hrow hc1 hyl hlj HO HE
   go_wp2_with (at_builtin;refine wpList_app rfl (.tmp 39) (.tmp 43) rfl rfl hOw rfl hrw hfit hBw ?_;intro v9 w9 hO9 hG9;have hF9:Ext w w9:=OwnB.below hOw hEw hG9 hBw;clear hG9 hOw hEw hBw hrw hfit)
   go_roundw
   case rel=>exact ⟨j+1,by omega,by go_num,by rw [HFj.out,← List.append_assoc];exact hO9,hF9⟩
   case measure=>simp [intOf];omega
  ·have hjI:¬ (j:Int) < (g:Int):=by omega
   obtain rfl:g=j:=by omega
   have hO:=HO.out
   rw [HFe.out] at hO
   clear HO HFe HFt HFl HF0 HHd HTot HHl HEl hjI
   generalize H++fs.flatten=X at *
   obtain ⟨A9,c9,rfl,-,-,hb9⟩:=hO.form
   have CP9:=CP _ A9 c9 hb9
   clear CP hb9 hO
   generalize X.length=m at *
   go_wp2_with fail
   refine CP9.mono ?_
   rintro e w10 ⟨v10,rfl,hO10,hE10⟩
   have hO11:=hO10.mono HE.out.le
   go_wp2
   go_ret
   exact ⟨_,rfl,hO11,HE.out.trans hE10⟩
end Go.Proofs.YtaogpmombefmmaaGreatDoor
